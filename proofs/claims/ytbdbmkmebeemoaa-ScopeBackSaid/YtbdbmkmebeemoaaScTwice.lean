/-
  scope.MayRes, May; hyglaw10.ResourceTwice, ScopeTwice.
-/
/-
  hyglaw10.ResourceBack, ScopeBack.
-/
import Derived.Test.YtbdbmkmebeemoaaScSame
namespace Go.Proofs.Ytbdbmkmebeemoaa
open Go.RowKit

mutual
theorem vlim_of : ∀ (x : Val), vw x ≤ 9223372036854775807 → vlim x
  | .mk k s b n l m i u, h => by
    rw [vw] at h
    rw [vlim]
    have h1 := vsw_len l
    have h2 := ksw_len m
    exact ⟨by omega, by omega, vslim_ofw l (by omega), kslim_ofw m (by omega)⟩
theorem klim_of : ∀ (x : KV), kw x ≤ 9223372036854775807 → klim x
  | .mk key has v u, h => by
    rw [kw] at h
    rw [klim]
    exact vlim_of v (by omega)
theorem vslim_ofw : ∀ (l : List Val), vsw l ≤ 9223372036854775807 → vslim l
  | [], _ => by rw [vslim]; trivial
  | x :: l, h => by
    rw [vsw] at h
    rw [vslim]
    exact ⟨vlim_of x (by omega), vslim_ofw l (by omega)⟩
theorem kslim_ofw : ∀ (l : List KV), ksw l ≤ 9223372036854775807 → kslim l
  | [], _ => by rw [kslim]; trivial
  | x :: l, h => by
    rw [ksw] at h
    rw [kslim]
    exact ⟨klim_of x (by omega), kslim_ofw l (by omega)⟩
end
theorem rN_len20 (num n : Nat) : (rN num n).raw.length ≤ 20 := by
  show (vput (8 * num + 0) ++ vput n).length ≤ 20
  rw [List.length_append]
  have := vput_le10 (8 * num + 0)
  have := vput_le10 n
  omega
theorem rs_lim {x : (List KV × Nat) × List UInt8} (h : rs_fit x) : kslim x.1.1 ∧ x.1.1.length ≤ 9223372036854775807 ∧ (rs_out x).length ≤ 500000 := by
  obtain ⟨⟨l, n⟩, u⟩ := x
  obtain ⟨_, _, h3⟩ := h
  dsimp only at h3
  have h1 := ksw_len l
  refine ⟨kslim_ofw l (by omega), by show l.length ≤ _; omega, ?_⟩
  show (kouts 1 l ++ (if n = 0 then [] else (rN 2 n).raw) ++ u).length ≤ _
  have h4 := kouts_le 1 (by omega) l
  have h5 := rN_len20 2 n
  rw [List.length_append, List.length_append]
  split
  · simp; omega
  · omega
theorem sc_lim {x : (List UInt8 × List UInt8 × List KV × Nat) × List UInt8} (h : sc_fit x) : kslim x.1.2.2.1 ∧ x.1.2.2.1.length ≤ 9223372036854775807 ∧ (sc_out x).length ≤ 500000 := by
  obtain ⟨⟨a, b, l, n⟩, u⟩ := x
  obtain ⟨_, _, h3⟩ := h
  dsimp only at h3
  have h1 := ksw_len l
  refine ⟨kslim_ofw l (by omega), by show l.length ≤ _; omega, ?_⟩
  show ((if a = [] then [] else (rB 1 a).raw) ++ (if b = [] then [] else (rB 2 b).raw) ++ kouts 3 l ++ (if n = 0 then [] else (rN 4 n).raw) ++ u).length ≤ _
  have h4 := kouts_le 3 (by omega) l
  have h5 := rN_len20 4 n
  have h6 := rB_len20 1 a
  have h7 := rB_len20 2 b
  simp only [List.length_append]
  have e1 : (if a = [] then [] else (rB 1 a).raw).length ≤ 20 + a.length := by
    split
    · simp
    · omega
  have e2 : (if b = [] then [] else (rB 2 b).raw).length ≤ 20 + b.length := by
    split
    · simp
    · omega
  have e3 : (if n = 0 then [] else (rN 4 n).raw).length ≤ 20 := by
    split
    · simp
    · omega
  omega
set_option maxRecDepth 1000000 in
set_option maxHeartbeats 8000000 in
theorem rs_mayc (x : (List KV × Nat) × List UInt8) (cs : List Value) (Q : Nat → Prop) (d : Int) (w : World) (hf : rs_fit x) (hr : RsRel w Q x cs) (hd : -9223372036854775808 ≤ d ∧ d ≤ 9223372036854775807) :
 Calls Try.prog 25 #[.agg cs.toArray, .int .i64 d] w fun e w' => e = .returned (.bool (rs_may d x)) ∧ Below w.heap.size w w' := by
 have HM := Lib.hid (fun w' (hb : Below w.heap.size w w') => rs_marshal x cs Q d w' hf (rsCel.upd (Upd.of_new (S := fun _ => False) hb) (fun _ _ h => h) (fun _ h => h) hr) hd)
 obtain ⟨lo1, lc1, rfl, _⟩ := hr
 obtain ⟨⟨l, n⟩, u⟩ := x
 obtain ⟨g, hg⟩ : ∃ g, rs_may d (((l, n), u)) = g := ⟨_, rfl⟩
 rw [hg] at HM ⊢
 dsimp only [strV] at HM ⊢
 obtain ⟨U, hU⟩ : ∃ U : ByteArray, (⟨u.toArray⟩ : ByteArray) = U := ⟨_, rfl⟩
 rw [hU] at HM ⊢
 clear hU
 obtain ⟨W, hW⟩ : ∃ W, w.alloc (.cells #[.slice lo1 l.length lc1, .int .u32 (n : Int), .string U] 40) = W := ⟨_, rfl⟩
 have HB0 : Hid (Below w.heap.size w W) := Lib.hid (by rw [← hW]; exact below_new _ _)
 have HW := Lib.hid hW
 clear hW hf hg hd
 go_enter Try.func25, Try.ntmps25
 go_wp2_with fail
 rw [HW.out]
 refine (HM.out W HB0.out).mono ?_; rintro e w1 ⟨hb, hcase⟩
 have HB1 := Lib.hid (below_step HB0.out hb)
 clear hb
 cases g with
 | true =>
  rw [if_pos rfl] at hcase
  subst hcase
  go_wp2_with fail
  go_ret
  exact ⟨rfl, HB1.out⟩
 | false =>
  rw [if_neg (by simp)] at hcase
  obtain ⟨v, rfl, hec⟩ := hcase
  obtain ⟨T', y, rfl⟩ := hec.iface
  clear hec
  go_wp2_with fail
  go_ret
  exact ⟨rfl, HB1.out⟩
set_option maxRecDepth 1000000 in
set_option maxHeartbeats 16000000 in
theorem rstw_no (s : ByteArray) (d : Int) (w : World) (hs : s.size ≤ 6000) (hd : -9223372036854775808 ≤ d ∧ d ≤ 9223372036854775807) {c : Nat} (hv : rsrd s.data.toList d = .error c) :
 Calls Try.prog 9 #[.string s, .int .i64 d] w fun e w' => e = .returned (.bool true) ∧ Below w.heap.size w w' := by
 have HD := Lib.hid hd
 have hsl : s.data.toList.length = s.size := by simp
 have HU := Lib.hid (fun w' => unres_any (Lib.hid ukey_any) s d w' (by omega) hd)
 rw [hv] at HU
 have q0 : decide ((6000 : Int) < (s.size : Int)) = false := decide_eq_false (by omega)
 have hb : Below w.heap.size w w := Below.refl _ _
 have H1 := Lib.hid (Fx.nil w)
 have H2 := Lib.hid (H1.out.base (hb))
 clear H1
 clear hb hd hv hsl hs
 go_enter Try.func9, Try.ntmps9
 go_wp2_with fail
 refine (first10 w).mono ?_; rintro e w1 ⟨rfl, hb⟩
 have H3 := Lib.hid (H2.out.below hb)
 clear hb H2
 go_wp2_with fail
 refine (HU.out w1).mono ?_; rintro e w2 ⟨hb, v4, q4, rfl, _, hew⟩
 obtain ⟨T4, y4, rfl⟩ := hew.iface
 clear hew HU
 unfold rszero
 have H4 := Lib.hid (H3.out.below hb)
 clear hb H3
 go_wp2_with fail
 obtain ⟨blr2, hbl⟩ : ∃ b, w2.heap.size = b := ⟨_, rfl⟩
 obtain ⟨W3, hW⟩ : ∃ W, w2.alloc (.cells #[.slice none 0 0, .int .u32 0, .string ⟨#[]⟩] 40) = W := ⟨_, rfl⟩
 have hb : Below w2.heap.size w2 W3 := by rw [← hW]; exact below_new _ _
 have hr : W3.heap[blr2]? = some (.cells #[.slice none 0 0, .int .u32 0, .string ⟨#[]⟩] 40 (0, 0)) := by rw [← hW, ← hbl]; exact new_row _ _ _
 rw [hW, hbl]
 clear hW hbl
 have H5 := Lib.hid (H4.out.below hb)
 clear hb H4
 have H6 := Lib.hid (H5.out.row (hr))
 clear H5
 clear hr
 refine (first10 W3).mono ?_; rintro e w4 ⟨rfl, hb⟩
 have H7 := Lib.hid (H6.out.below hb)
 clear hb H6
 obtain ⟨xa0, xa1, xa2⟩ := row3 (H7.out.is.1)
 go_wp2_with fail
 refine (rs_same (([], 0), []) (([], 0), []) [.slice none 0 0, .int .u32 0, .string ⟨#[]⟩] [.slice none 0 0, .int .u32 0, .string ⟨#[]⟩] (fun _ => True) (fun _ => True) w4 (by rw [kslim]; trivial) (by simp) ⟨none, 0, rfl, by rw [KRels]; trivial⟩ ⟨none, 0, rfl, by rw [KRels]; trivial⟩).mono ?_; rintro e w5 ⟨rfl, hb⟩
 rw [alike_yes rfl]
 clear xa0 xa1 xa2
 have H8 := Lib.hid (H7.out.below hb)
 clear hb H7
 go_wp2_with fail
 go_ret
 exact ⟨rfl, H8.out.is.2.1⟩
set_option maxRecDepth 1000000 in
set_option maxHeartbeats 16000000 in
theorem rstw_ok (s : ByteArray) (d : Int) (w : World) (hs : s.size ≤ 6000) (hd : -9223372036854775808 ≤ d ∧ d ≤ 9223372036854775807) {x : (List KV × Nat) × List UInt8} (hv : rsrd s.data.toList d = .ok x) :
 Calls Try.prog 9 #[.string s, .int .i64 d] w fun e w' => e = .returned (.bool true) ∧ Below w.heap.size w w' := by
 have HD := Lib.hid hd
 have hsl : s.data.toList.length = s.size := by simp
 have HU := Lib.hid (fun w' => unres_any (Lib.hid ukey_any) s d w' (by omega) hd)
 rw [hv] at HU
 have q0 : decide ((6000 : Int) < (s.size : Int)) = false := decide_eq_false (by omega)
 have hb : Below w.heap.size w w := Below.refl _ _
 obtain ⟨⟨l, n⟩, u⟩ := x
 obtain ⟨hmay, hfit⟩ := rs_twice (by omega) hv
 have hlim := rs_lim hfit
 have hbk := rs_back hfit hmay
 obtain ⟨SS, hSS⟩ : ∃ S : ByteArray, (⟨(rs_out (((l, n), u))).toArray⟩ : ByteArray) = S := ⟨_, rfl⟩
 have hSL : SS.data.toList = rs_out (((l, n), u)) := by rw [← hSS]
 have hsz : SS.size = (rs_out (((l, n), u))).length := by rw [← hSS]; simp [ByteArray.size]
 have HU2 := Lib.hid (fun w' => unres_any (Lib.hid ukey_any) SS d w' (by have := hlim.2.2; omega) hd)
 rw [hSL, hbk] at HU2
 have HFIT := Lib.hid hfit
 have HMAY := Lib.hid hmay
 have HLIM := Lib.hid hlim
 have HS := Lib.hid hSS
 clear hmay hfit hlim hbk hSS hSL hsz
 have H1 := Lib.hid (Fx.nil w)
 have H2 := Lib.hid (H1.out.base (hb))
 clear H1
 clear hb hd hv hsl hs
 go_enter Try.func9, Try.ntmps9
 go_wp2_with fail
 refine (first10 w).mono ?_; rintro e w1 ⟨rfl, hb⟩
 have H3 := Lib.hid (H2.out.below hb)
 clear hb H2
 go_wp2_with fail
 obtain ⟨U, hU⟩ : ∃ U : ByteArray, (⟨u.toArray⟩ : ByteArray) = U := ⟨_, rfl⟩
 have HUN := Lib.hid hU
 clear hU
 refine (HU.out w1).mono ?_; rintro e w2 ⟨hb, cs, rfl, lo1, lc1, rfl, hk1⟩
 clear HU
 dsimp only [strV]
 rw [HUN.out]
 have H4 := Lib.hid (H3.out.below hb)
 clear hb H3
 have H5 := Lib.hid (H4.out.krels (hk1))
 clear H4
 clear hk1
 go_upto_region 8 with fail
 obtain ⟨blr1, hbl⟩ : ∃ b, w2.heap.size = b := ⟨_, rfl⟩
 obtain ⟨W3, hW⟩ : ∃ W, w2.alloc (.cells #[.slice lo1 l.length lc1, .int .u32 (n : Int), .string U] 40) = W := ⟨_, rfl⟩
 have hb : Below w2.heap.size w2 W3 := by rw [← hW]; exact below_new _ _
 have hr : W3.heap[blr1]? = some (.cells #[.slice lo1 l.length lc1, .int .u32 (n : Int), .string U] 40 (0, 0)) := by rw [← hW, ← hbl]; exact new_row _ _ _
 rw [hW, hbl]
 clear hW hbl
 have H6 := Lib.hid (H5.out.below hb)
 clear hb H5
 have H7 := Lib.hid (H6.out.row (hr))
 clear H6
 clear hr
 obtain ⟨xa0, xa1, xa2⟩ := row3 (H7.out.is.1)
 go_wp2_with fail
 refine (rs_marshal ((l, n), u) [.slice lo1 l.length lc1, .int .u32 (n : Int), .string U] _ d W3 HFIT.out ⟨lo1, lc1, by rw [← HUN.out]; rfl, H7.out.is.2.1⟩ HD.out).mono ?_; rintro e w4 ⟨hb, hcase⟩
 rw [HMAY.out, if_pos rfl] at hcase
 subst hcase
 rw [HS.out]
 clear xa0 xa1 xa2
 have H8 := Lib.hid (H7.out.below hb)
 clear hb H7
 go_wp2_with fail
 refine (HU2.out w4).mono ?_; rintro e w5 ⟨hb, cs, rfl, lo2, lc2, rfl, hk2⟩
 clear HU2
 dsimp only [strV]
 rw [HUN.out]
 have H9 := Lib.hid (H8.out.below hb)
 clear hb H8
 have H10 := Lib.hid (H9.out.krels (hk2))
 clear H9
 clear hk2
 go_upto_region 10 with fail
 obtain ⟨blr2, hbl⟩ : ∃ b, w5.heap.size = b := ⟨_, rfl⟩
 obtain ⟨W6, hW⟩ : ∃ W, w5.alloc (.cells #[.slice lo2 l.length lc2, .int .u32 (n : Int), .string U] 40) = W := ⟨_, rfl⟩
 have hb : Below w5.heap.size w5 W6 := by rw [← hW]; exact below_new _ _
 have hr : W6.heap[blr2]? = some (.cells #[.slice lo2 l.length lc2, .int .u32 (n : Int), .string U] 40 (0, 0)) := by rw [← hW, ← hbl]; exact new_row _ _ _
 rw [hW, hbl]
 clear hW hbl
 have H11 := Lib.hid (H10.out.below hb)
 clear hb H10
 have H12 := Lib.hid (H11.out.row (hr))
 clear H11
 clear hr
 obtain ⟨xb0, xb1, xb2⟩ := row3 (H12.out.is.1)
 go_wp2_with fail
 refine (rs_marshal ((l, n), u) [.slice lo2 l.length lc2, .int .u32 (n : Int), .string U] _ d W6 HFIT.out ⟨lo2, lc2, by rw [← HUN.out]; rfl, H12.out.is.2.1⟩ HD.out).mono ?_; rintro e w7 ⟨hb, hcase⟩
 rw [HMAY.out, if_pos rfl] at hcase
 subst hcase
 rw [HS.out]
 clear xb0 xb1 xb2
 have H13 := Lib.hid (H12.out.below hb)
 clear hb H12
 go_wp2_with fail
 refine (first10 w7).mono ?_; rintro e w8 ⟨rfl, hb⟩
 have H14 := Lib.hid (H13.out.below hb)
 clear hb H13
 obtain ⟨xa0, xa1, xa2⟩ := row3 (H14.out.is.2.2.1)
 go_wp2_with fail
 refine (rs_mayc ((l, n), u) [.slice lo1 l.length lc1, .int .u32 (n : Int), .string U] _ d w8 HFIT.out ⟨lo1, lc1, by rw [← HUN.out]; rfl, H14.out.is.2.2.2.1⟩ HD.out).mono ?_; rintro e w9 ⟨rfl, hb⟩
 rw [HMAY.out]
 clear xa0 xa1 xa2
 have H15 := Lib.hid (H14.out.below hb)
 clear hb H14
 obtain ⟨xa0, xa1, xa2⟩ := row3 (H15.out.is.2.2.1)
 obtain ⟨xb0, xb1, xb2⟩ := row3 (H15.out.is.1)
 go_wp2_with fail
 refine (rs_same ((l, n), u) ((l, n), u) [.slice lo1 l.length lc1, .int .u32 (n : Int), .string U] [.slice lo2 l.length lc2, .int .u32 (n : Int), .string U] _ _ w9 HLIM.out.1 HLIM.out.2.1 ⟨lo1, lc1, by rw [← HUN.out]; rfl, H15.out.is.2.2.2.1⟩ ⟨lo2, lc2, by rw [← HUN.out]; rfl, H15.out.is.2.1⟩).mono ?_; rintro e w10 ⟨rfl, hb⟩
 rw [alike_yes rfl]
 clear xa0 xa1 xa2 xb0 xb1 xb2
 have H16 := Lib.hid (H15.out.below hb)
 clear hb H15
 go_wp2_with fail
 go_ret
 exact ⟨rfl, H16.out.is.2.2.2.2.1⟩
set_option maxRecDepth 1000000 in
set_option maxHeartbeats 16000000 in
theorem rstw_any (s : ByteArray) (d : Int) (w : World) (hd : -9223372036854775808 ≤ d ∧ d ≤ 9223372036854775807) :
 Calls Try.prog 9 #[.string s, .int .i64 d] w fun e w' => e = .returned (.bool true) ∧ Below w.heap.size w w' := by
 by_cases hs : s.size ≤ 6000
 ·cases hv : rsrd s.data.toList d with
  | error c => exact rstw_no s d w hs hd hv
  | ok x => exact rstw_ok s d w hs hd hv
 ·have q0 : decide ((6000 : Int) < (s.size : Int)) = true := decide_eq_true (by omega)
  clear hs hd
  go_enter Try.func9, Try.ntmps9
  go_wp2_with fail
  refine (first10 w).mono ?_; rintro e w1 ⟨rfl, hb⟩
  have HB := Lib.hid hb
  clear hb
  go_wp2_with fail
  refine (first10 w1).mono ?_; rintro e w2 ⟨rfl, hb⟩
  have HB2 := Lib.hid (below_step HB.out hb)
  clear hb
  go_wp2_with fail
  go_ret
  exact ⟨rfl, HB2.out⟩
set_option maxRecDepth 1000000 in
set_option maxHeartbeats 8000000 in
theorem sc_mayc (x : (List UInt8 × List UInt8 × List KV × Nat) × List UInt8) (cs : List Value) (Q : Nat → Prop) (d : Int) (w : World) (hf : sc_fit x) (hr : ScRel w Q x cs) (hd : -9223372036854775808 ≤ d ∧ d ≤ 9223372036854775807) :
 Calls Try.prog 19 #[.agg cs.toArray, .int .i64 d] w fun e w' => e = .returned (.bool (sc_may d x)) ∧ Below w.heap.size w w' := by
 have HM := Lib.hid (fun w' (hb : Below w.heap.size w w') => sc_marshal x cs Q d w' hf (scCel.upd (Upd.of_new (S := fun _ => False) hb) (fun _ _ h => h) (fun _ h => h) hr) hd)
 obtain ⟨lo1, lc1, rfl, _⟩ := hr
 obtain ⟨⟨a, b, l, n⟩, u⟩ := x
 obtain ⟨g, hg⟩ : ∃ g, sc_may d (((a, b, l, n), u)) = g := ⟨_, rfl⟩
 rw [hg] at HM ⊢
 dsimp only [strV] at HM ⊢
 obtain ⟨U, hU⟩ : ∃ U : ByteArray, (⟨u.toArray⟩ : ByteArray) = U := ⟨_, rfl⟩
 obtain ⟨A, hA⟩ : ∃ U : ByteArray, (⟨a.toArray⟩ : ByteArray) = U := ⟨_, rfl⟩
 obtain ⟨B, hB⟩ : ∃ U : ByteArray, (⟨b.toArray⟩ : ByteArray) = U := ⟨_, rfl⟩
 rw [hU, hA, hB] at HM ⊢
 clear hU hA hB
 obtain ⟨W, hW⟩ : ∃ W, w.alloc (.cells #[.string A, .string B, .slice lo1 l.length lc1, .int .u32 (n : Int), .string U] 25) = W := ⟨_, rfl⟩
 have HB0 : Hid (Below w.heap.size w W) := Lib.hid (by rw [← hW]; exact below_new _ _)
 have HW := Lib.hid hW
 clear hW hf hg hd
 go_enter Try.func19, Try.ntmps19
 go_wp2_with fail
 rw [HW.out]
 refine (HM.out W HB0.out).mono ?_; rintro e w1 ⟨hb, hcase⟩
 have HB1 := Lib.hid (below_step HB0.out hb)
 clear hb
 cases g with
 | true =>
  rw [if_pos rfl] at hcase
  subst hcase
  go_wp2_with fail
  go_ret
  exact ⟨rfl, HB1.out⟩
 | false =>
  rw [if_neg (by simp)] at hcase
  obtain ⟨v, rfl, hec⟩ := hcase
  obtain ⟨T', y, rfl⟩ := hec.iface
  clear hec
  go_wp2_with fail
  go_ret
  exact ⟨rfl, HB1.out⟩
set_option maxRecDepth 1000000 in
set_option maxHeartbeats 16000000 in
theorem sctw_no (s : ByteArray) (d : Int) (w : World) (hs : s.size ≤ 6000) (hd : -9223372036854775808 ≤ d ∧ d ≤ 9223372036854775807) {c : Nat} (hv : scrd s.data.toList d = .error c) :
 Calls Try.prog 5 #[.string s, .int .i64 d] w fun e w' => e = .returned (.bool true) ∧ Below w.heap.size w w' := by
 have HD := Lib.hid hd
 have hsl : s.data.toList.length = s.size := by simp
 have HU := Lib.hid (fun w' => unsc_any (Lib.hid ukey_any) s d w' (by omega) hd)
 rw [hv] at HU
 have q0 : decide ((6000 : Int) < (s.size : Int)) = false := decide_eq_false (by omega)
 have hb : Below w.heap.size w w := Below.refl _ _
 have H1 := Lib.hid (Fx.nil w)
 have H2 := Lib.hid (H1.out.base (hb))
 clear H1
 clear hb hd hv hsl hs
 go_enter Try.func5, Try.ntmps5
 go_wp2_with fail
 refine (first10 w).mono ?_; rintro e w1 ⟨rfl, hb⟩
 have H3 := Lib.hid (H2.out.below hb)
 clear hb H2
 go_wp2_with fail
 refine (HU.out w1).mono ?_; rintro e w2 ⟨hb, v4, q4, rfl, _, hew⟩
 obtain ⟨T4, y4, rfl⟩ := hew.iface
 clear hew HU
 unfold sczero
 have H4 := Lib.hid (H3.out.below hb)
 clear hb H3
 go_wp2_with fail
 obtain ⟨blr2, hbl⟩ : ∃ b, w2.heap.size = b := ⟨_, rfl⟩
 obtain ⟨W3, hW⟩ : ∃ W, w2.alloc (.cells #[.string ⟨#[]⟩, .string ⟨#[]⟩, .slice none 0 0, .int .u32 0, .string ⟨#[]⟩] 25) = W := ⟨_, rfl⟩
 have hb : Below w2.heap.size w2 W3 := by rw [← hW]; exact below_new _ _
 have hr : W3.heap[blr2]? = some (.cells #[.string ⟨#[]⟩, .string ⟨#[]⟩, .slice none 0 0, .int .u32 0, .string ⟨#[]⟩] 25 (0, 0)) := by rw [← hW, ← hbl]; exact new_row _ _ _
 rw [hW, hbl]
 clear hW hbl
 have H5 := Lib.hid (H4.out.below hb)
 clear hb H4
 have H6 := Lib.hid (H5.out.row (hr))
 clear H5
 clear hr
 refine (first10 W3).mono ?_; rintro e w4 ⟨rfl, hb⟩
 have H7 := Lib.hid (H6.out.below hb)
 clear hb H6
 obtain ⟨xa0, xa1, xa2, xa3, xa4⟩ := row5 (H7.out.is.1)
 go_wp2_with fail
 refine (sc_same (([], [], [], 0), []) (([], [], [], 0), []) [.string ⟨#[]⟩, .string ⟨#[]⟩, .slice none 0 0, .int .u32 0, .string ⟨#[]⟩] [.string ⟨#[]⟩, .string ⟨#[]⟩, .slice none 0 0, .int .u32 0, .string ⟨#[]⟩] (fun _ => True) (fun _ => True) w4 (by rw [kslim]; trivial) (by simp) ⟨none, 0, rfl, by rw [KRels]; trivial⟩ ⟨none, 0, rfl, by rw [KRels]; trivial⟩).mono ?_; rintro e w5 ⟨rfl, hb⟩
 rw [alike_yes rfl]
 clear xa0 xa1 xa2 xa3 xa4
 have H8 := Lib.hid (H7.out.below hb)
 clear hb H7
 go_wp2_with fail
 go_ret
 exact ⟨rfl, H8.out.is.2.1⟩
set_option maxRecDepth 1000000 in
set_option maxHeartbeats 16000000 in
theorem sctw_ok (s : ByteArray) (d : Int) (w : World) (hs : s.size ≤ 6000) (hd : -9223372036854775808 ≤ d ∧ d ≤ 9223372036854775807) {x : (List UInt8 × List UInt8 × List KV × Nat) × List UInt8} (hv : scrd s.data.toList d = .ok x) :
 Calls Try.prog 5 #[.string s, .int .i64 d] w fun e w' => e = .returned (.bool true) ∧ Below w.heap.size w w' := by
 have HD := Lib.hid hd
 have hsl : s.data.toList.length = s.size := by simp
 have HU := Lib.hid (fun w' => unsc_any (Lib.hid ukey_any) s d w' (by omega) hd)
 rw [hv] at HU
 have q0 : decide ((6000 : Int) < (s.size : Int)) = false := decide_eq_false (by omega)
 have hb : Below w.heap.size w w := Below.refl _ _
 obtain ⟨⟨a, b, l, n⟩, u⟩ := x
 obtain ⟨hmay, hfit⟩ := sc_twice (by omega) hv
 have hlim := sc_lim hfit
 have hbk := sc_back hfit hmay
 obtain ⟨SS, hSS⟩ : ∃ S : ByteArray, (⟨(sc_out (((a, b, l, n), u))).toArray⟩ : ByteArray) = S := ⟨_, rfl⟩
 have hSL : SS.data.toList = sc_out (((a, b, l, n), u)) := by rw [← hSS]
 have hsz : SS.size = (sc_out (((a, b, l, n), u))).length := by rw [← hSS]; simp [ByteArray.size]
 have HU2 := Lib.hid (fun w' => unsc_any (Lib.hid ukey_any) SS d w' (by have := hlim.2.2; omega) hd)
 rw [hSL, hbk] at HU2
 have HFIT := Lib.hid hfit
 have HMAY := Lib.hid hmay
 have HLIM := Lib.hid hlim
 have HS := Lib.hid hSS
 clear hmay hfit hlim hbk hSS hSL hsz
 have H1 := Lib.hid (Fx.nil w)
 have H2 := Lib.hid (H1.out.base (hb))
 clear H1
 clear hb hd hv hsl hs
 go_enter Try.func5, Try.ntmps5
 go_wp2_with fail
 refine (first10 w).mono ?_; rintro e w1 ⟨rfl, hb⟩
 have H3 := Lib.hid (H2.out.below hb)
 clear hb H2
 go_wp2_with fail
 obtain ⟨U, hU⟩ : ∃ U : ByteArray, (⟨u.toArray⟩ : ByteArray) = U := ⟨_, rfl⟩
 obtain ⟨A, hA⟩ : ∃ U : ByteArray, (⟨a.toArray⟩ : ByteArray) = U := ⟨_, rfl⟩
 obtain ⟨B, hB⟩ : ∃ U : ByteArray, (⟨b.toArray⟩ : ByteArray) = U := ⟨_, rfl⟩
 have HUN := Lib.hid hU
 have HAN := Lib.hid hA
 have HBN := Lib.hid hB
 clear hU hA hB
 refine (HU.out w1).mono ?_; rintro e w2 ⟨hb, cs, rfl, lo1, lc1, rfl, hk1⟩
 clear HU
 dsimp only [strV]
 rw [HUN.out, HAN.out, HBN.out]
 have H4 := Lib.hid (H3.out.below hb)
 clear hb H3
 have H5 := Lib.hid (H4.out.krels (hk1))
 clear H4
 clear hk1
 go_upto_region 8 with fail
 obtain ⟨blr1, hbl⟩ : ∃ b, w2.heap.size = b := ⟨_, rfl⟩
 obtain ⟨W3, hW⟩ : ∃ W, w2.alloc (.cells #[.string A, .string B, .slice lo1 l.length lc1, .int .u32 (n : Int), .string U] 25) = W := ⟨_, rfl⟩
 have hb : Below w2.heap.size w2 W3 := by rw [← hW]; exact below_new _ _
 have hr : W3.heap[blr1]? = some (.cells #[.string A, .string B, .slice lo1 l.length lc1, .int .u32 (n : Int), .string U] 25 (0, 0)) := by rw [← hW, ← hbl]; exact new_row _ _ _
 rw [hW, hbl]
 clear hW hbl
 have H6 := Lib.hid (H5.out.below hb)
 clear hb H5
 have H7 := Lib.hid (H6.out.row (hr))
 clear H6
 clear hr
 obtain ⟨xa0, xa1, xa2, xa3, xa4⟩ := row5 (H7.out.is.1)
 go_wp2_with fail
 refine (sc_marshal ((a, b, l, n), u) [.string A, .string B, .slice lo1 l.length lc1, .int .u32 (n : Int), .string U] _ d W3 HFIT.out ⟨lo1, lc1, by rw [← HUN.out, ← HAN.out, ← HBN.out]; rfl, H7.out.is.2.1⟩ HD.out).mono ?_; rintro e w4 ⟨hb, hcase⟩
 rw [HMAY.out, if_pos rfl] at hcase
 subst hcase
 rw [HS.out]
 clear xa0 xa1 xa2 xa3 xa4
 have H8 := Lib.hid (H7.out.below hb)
 clear hb H7
 go_wp2_with fail
 refine (HU2.out w4).mono ?_; rintro e w5 ⟨hb, cs, rfl, lo2, lc2, rfl, hk2⟩
 clear HU2
 dsimp only [strV]
 rw [HUN.out, HAN.out, HBN.out]
 have H9 := Lib.hid (H8.out.below hb)
 clear hb H8
 have H10 := Lib.hid (H9.out.krels (hk2))
 clear H9
 clear hk2
 go_upto_region 10 with fail
 obtain ⟨blr2, hbl⟩ : ∃ b, w5.heap.size = b := ⟨_, rfl⟩
 obtain ⟨W6, hW⟩ : ∃ W, w5.alloc (.cells #[.string A, .string B, .slice lo2 l.length lc2, .int .u32 (n : Int), .string U] 25) = W := ⟨_, rfl⟩
 have hb : Below w5.heap.size w5 W6 := by rw [← hW]; exact below_new _ _
 have hr : W6.heap[blr2]? = some (.cells #[.string A, .string B, .slice lo2 l.length lc2, .int .u32 (n : Int), .string U] 25 (0, 0)) := by rw [← hW, ← hbl]; exact new_row _ _ _
 rw [hW, hbl]
 clear hW hbl
 have H11 := Lib.hid (H10.out.below hb)
 clear hb H10
 have H12 := Lib.hid (H11.out.row (hr))
 clear H11
 clear hr
 obtain ⟨xb0, xb1, xb2, xb3, xb4⟩ := row5 (H12.out.is.1)
 go_wp2_with fail
 refine (sc_marshal ((a, b, l, n), u) [.string A, .string B, .slice lo2 l.length lc2, .int .u32 (n : Int), .string U] _ d W6 HFIT.out ⟨lo2, lc2, by rw [← HUN.out, ← HAN.out, ← HBN.out]; rfl, H12.out.is.2.1⟩ HD.out).mono ?_; rintro e w7 ⟨hb, hcase⟩
 rw [HMAY.out, if_pos rfl] at hcase
 subst hcase
 rw [HS.out]
 clear xb0 xb1 xb2 xb3 xb4
 have H13 := Lib.hid (H12.out.below hb)
 clear hb H12
 go_wp2_with fail
 refine (first10 w7).mono ?_; rintro e w8 ⟨rfl, hb⟩
 have H14 := Lib.hid (H13.out.below hb)
 clear hb H13
 obtain ⟨xa0, xa1, xa2, xa3, xa4⟩ := row5 (H14.out.is.2.2.1)
 go_wp2_with fail
 refine (sc_mayc ((a, b, l, n), u) [.string A, .string B, .slice lo1 l.length lc1, .int .u32 (n : Int), .string U] _ d w8 HFIT.out ⟨lo1, lc1, by rw [← HUN.out, ← HAN.out, ← HBN.out]; rfl, H14.out.is.2.2.2.1⟩ HD.out).mono ?_; rintro e w9 ⟨rfl, hb⟩
 rw [HMAY.out]
 clear xa0 xa1 xa2 xa3 xa4
 have H15 := Lib.hid (H14.out.below hb)
 clear hb H14
 obtain ⟨xa0, xa1, xa2, xa3, xa4⟩ := row5 (H15.out.is.2.2.1)
 obtain ⟨xb0, xb1, xb2, xb3, xb4⟩ := row5 (H15.out.is.1)
 go_wp2_with fail
 refine (sc_same ((a, b, l, n), u) ((a, b, l, n), u) [.string A, .string B, .slice lo1 l.length lc1, .int .u32 (n : Int), .string U] [.string A, .string B, .slice lo2 l.length lc2, .int .u32 (n : Int), .string U] _ _ w9 HLIM.out.1 HLIM.out.2.1 ⟨lo1, lc1, by rw [← HUN.out, ← HAN.out, ← HBN.out]; rfl, H15.out.is.2.2.2.1⟩ ⟨lo2, lc2, by rw [← HUN.out, ← HAN.out, ← HBN.out]; rfl, H15.out.is.2.1⟩).mono ?_; rintro e w10 ⟨rfl, hb⟩
 rw [alike_yes rfl]
 clear xa0 xa1 xa2 xa3 xa4 xb0 xb1 xb2 xb3 xb4
 have H16 := Lib.hid (H15.out.below hb)
 clear hb H15
 go_wp2_with fail
 go_ret
 exact ⟨rfl, H16.out.is.2.2.2.2.1⟩
set_option maxRecDepth 1000000 in
set_option maxHeartbeats 16000000 in
theorem sctw_any (s : ByteArray) (d : Int) (w : World) (hd : -9223372036854775808 ≤ d ∧ d ≤ 9223372036854775807) :
 Calls Try.prog 5 #[.string s, .int .i64 d] w fun e w' => e = .returned (.bool true) ∧ Below w.heap.size w w' := by
 by_cases hs : s.size ≤ 6000
 ·cases hv : scrd s.data.toList d with
  | error c => exact sctw_no s d w hs hd hv
  | ok x => exact sctw_ok s d w hs hd hv
 ·have q0 : decide ((6000 : Int) < (s.size : Int)) = true := decide_eq_true (by omega)
  clear hs hd
  go_enter Try.func5, Try.ntmps5
  go_wp2_with fail
  refine (first10 w).mono ?_; rintro e w1 ⟨rfl, hb⟩
  have HB := Lib.hid hb
  clear hb
  go_wp2_with fail
  refine (first10 w1).mono ?_; rintro e w2 ⟨rfl, hb⟩
  have HB2 := Lib.hid (below_step HB.out hb)
  clear hb
  go_wp2_with fail
  go_ret
  exact ⟨rfl, HB2.out⟩
end Go.Proofs.Ytbdbmkmebeemoaa
namespace Go.Proofs.Ytbdbmkmebeemoaa
open Go.RowKit
def R3w (T : TypeId) (g1 : Nat) (c1 : Array Value) (g2 : Nat) (c2 : Array Value) (g3 : Nat) (c3 : Array Value) (w : World) : Prop := w.heap[g1]? = some (.cells c1 T (0, 0)) ∧ w.heap[g2]? = some (.cells c2 T (0, 0)) ∧ w.heap[g3]? = some (.cells c3 T (0, 0))
theorem R3w.below {g1 g2 g3 : Nat} {c1 c2 c3 : Array Value} {T : TypeId} {w w' : World} (h : R3w T g1 c1 g2 c2 g3 c3 w) (hb : Below w.heap.size w w') : R3w T g1 c1 g2 c2 g3 c3 w' := ⟨(hb.block _ (row_lt h.1)).trans h.1, (hb.block _ (row_lt h.2.1)).trans h.2.1, (hb.block _ (row_lt h.2.2)).trans h.2.2⟩
set_option maxRecDepth 1000000 in
set_option maxHeartbeats 16000000 in
theorem rsbk_F (x : (List KV × Nat) × List UInt8) (cs : List Value) (P : Nat → Prop) (d c : Int) (w : World) (hlim : kslim x.1.1) (hfit : ksfit x.1.1) (hlen : x.1.1.length ≤ 9223372036854775807) (hn : x.1.2 < 4294967296) (hxu : x.2.length ≤ 9223372036854775807) (hr : RsRel w P x cs) (hd : -9223372036854775808 ≤ d ∧ d ≤ 9223372036854775807) (hc : -9223372036854775808 ≤ c ∧ c ≤ 9223372036854775807) (hm : rs_may d x = false) :
 Calls Try.prog 8 #[.agg cs.toArray, .int .i64 d, .int .i64 c] w fun e w' => e = .returned (.bool true) ∧ Below w.heap.size w w' := by
 obtain ⟨lo1, lc1, rfl, hk1⟩ := hr
 obtain ⟨⟨l, n⟩, u⟩ := x
 dsimp only [strV]
 obtain ⟨U, eU⟩ : ∃ X : ByteArray, (⟨u.toArray⟩ : ByteArray) = X := ⟨_, rfl⟩
 have HUN := Lib.hid eU
 rw [eU]
 clear eU
 have HLIM := Lib.hid hlim
 have HFIT := Lib.hid hfit
 have HLEN := Lib.hid hlen
 have HNX := Lib.hid hn
 have HDX := Lib.hid hd
 have HCX := Lib.hid hc
 have HMX := Lib.hid hm
 have HUX := Lib.hid hxu
 have hb : Below w.heap.size w w := Below.refl _ _
 have H1 := Lib.hid (Fx.nil w)
 have H2 := Lib.hid (H1.out.base (hb))
 clear H1
 have H3 := Lib.hid (H2.out.krels (hk1))
 clear H2
 clear hb hk1 hlim hfit hlen hn hd hc hm hxu
 go_enter Try.func8, Try.ntmps8
 go_upto_region 1 with fail
 obtain ⟨blr1, hbl⟩ : ∃ b, w.heap.size = b := ⟨_, rfl⟩
 obtain ⟨W1, hW⟩ : ∃ W, w.alloc (.cells #[.slice lo1 l.length lc1, .int .u32 (n : Int), .string U] 40) = W := ⟨_, rfl⟩
 have hb : Below w.heap.size w W1 := by rw [← hW]; exact below_new _ _
 have hr : W1.heap[blr1]? = some (.cells #[.slice lo1 l.length lc1, .int .u32 (n : Int), .string U] 40 (0, 0)) := by rw [← hW, ← hbl]; exact new_row _ _ _
 rw [hW, hbl]
 clear hW hbl
 have H4 := Lib.hid (H3.out.below hb)
 clear hb H3
 have H5 := Lib.hid (H4.out.row (hr))
 clear H4
 clear hr
 go_wp2_with fail
 refine (first10 W1).mono ?_; rintro e w1 ⟨rfl, hb⟩
 have H6 := Lib.hid (H5.out.below hb)
 clear hb H5
 obtain ⟨xa0, xa1, xa2⟩ := row3 (H6.out.is.1)
 go_wp2_with fail
 refine (rs_room ((l, n), u) [.slice lo1 l.length lc1, .int .u32 (n : Int), .string U] _ w1 12000 HLIM.out HFIT.out HLEN.out HUX.out ⟨lo1, lc1, by rw [← HUN.out]; rfl, H6.out.is.2.1⟩ (by omega)).mono ?_; intro e w2 hpost
 obtain ⟨hb, r, rfl, HR⟩ := hpost
 clear xa0 xa1 xa2
 have H7 := Lib.hid (H6.out.below hb)
 clear hb H6
 by_cases hr0 : r < 0
 case pos =>
  have d1 : decide (r < 0) = true := decide_eq_true hr0
  clear hr0 HR
  go_wp2_with fail
  refine (first10 w2).mono ?_; rintro e w9 ⟨rfl, hb⟩
  have H8 := Lib.hid (H7.out.below hb)
  clear hb H7
  go_wp2_with fail
  go_ret
  exact ⟨rfl, H8.out.is.2.2.1⟩
 have d1 : decide (r < 0) = false := decide_eq_false hr0
 by_cases hc0 : c < 0
 case pos =>
  have d2 : decide (c < 0) = true := decide_eq_true hc0
  clear hc0 hr0 HR
  go_wp2_with fail
  refine (first10 w2).mono ?_; rintro e w9 ⟨rfl, hb⟩
  have H8 := Lib.hid (H7.out.below hb)
  clear hb H7
  go_wp2_with fail
  go_ret
  exact ⟨rfl, H8.out.is.2.2.1⟩
 have d2 : decide (c < 0) = false := decide_eq_false hc0
 by_cases hc1 : d < c
 case pos =>
  have d3 : decide (d < c) = true := decide_eq_true hc1
  clear hc1 hc0 hr0 HR
  go_wp2_with fail
  refine (first10 w2).mono ?_; rintro e w9 ⟨rfl, hb⟩
  have H8 := Lib.hid (H7.out.below hb)
  clear hb H7
  go_wp2_with fail
  go_ret
  exact ⟨rfl, H8.out.is.2.2.1⟩
 have d3 : decide (d < c) = false := decide_eq_false hc1
 have HW : Hid (20 + u.length + ksw l ≤ 12000) := Lib.hid (by have h := HR.out; unfold RoomOk at h; dsimp only at h; omega)
 have hfit : rs_fit ((l, n), u) := ⟨HFIT.out, HNX.out, by have h := HW.out; dsimp only; omega⟩
 have HRF := Lib.hid hfit
 have HC0 := Lib.hid hc0
 have HC1 := Lib.hid hc1
 clear HR hr0 hfit hc0 hc1
 obtain ⟨xa0, xa1, xa2⟩ := row3 (H7.out.is.1)
 go_wp2_with fail
 refine (rs_marshal ((l, n), u) [.slice lo1 l.length lc1, .int .u32 (n : Int), .string U] _ d w2 HRF.out ⟨lo1, lc1, by rw [← HUN.out]; rfl, H7.out.is.2.1⟩ HDX.out).mono ?_; rintro e w3 ⟨hb, hcase⟩
 rw [HMX.out, if_neg (by simp)] at hcase
 obtain ⟨v, rfl, hec⟩ := hcase
 obtain ⟨T', y, rfl⟩ := hec.iface
 clear hec
 clear xa0 xa1 xa2
 have H8 := Lib.hid (H7.out.below hb)
 clear hb H7
 go_wp2_with fail
 refine (first10 w3).mono ?_; rintro e w4 ⟨rfl, hb⟩
 have H9 := Lib.hid (H8.out.below hb)
 clear hb H8
 go_wp2_with fail
 go_ret
 exact ⟨rfl, H9.out.is.2.2.1⟩
set_option maxRecDepth 1000000 in
set_option maxHeartbeats 16000000 in
theorem rsbk_TF (x : (List KV × Nat) × List UInt8) (cs : List Value) (P : Nat → Prop) (d c : Int) (w : World) (hlim : kslim x.1.1) (hfit : ksfit x.1.1) (hlen : x.1.1.length ≤ 9223372036854775807) (hn : x.1.2 < 4294967296) (hxu : x.2.length ≤ 9223372036854775807) (hr : RsRel w P x cs) (hd : -9223372036854775808 ≤ d ∧ d ≤ 9223372036854775807) (hc : -9223372036854775808 ≤ c ∧ c ≤ 9223372036854775807) (hm : rs_may d x = true) (hm2 : rs_may (d - c) x = false) :
 Calls Try.prog 8 #[.agg cs.toArray, .int .i64 d, .int .i64 c] w fun e w' => e = .returned (.bool true) ∧ Below w.heap.size w w' := by
 obtain ⟨lo1, lc1, rfl, hk1⟩ := hr
 obtain ⟨⟨l, n⟩, u⟩ := x
 dsimp only [strV]
 obtain ⟨U, eU⟩ : ∃ X : ByteArray, (⟨u.toArray⟩ : ByteArray) = X := ⟨_, rfl⟩
 have HUN := Lib.hid eU
 rw [eU]
 clear eU
 have HLIM := Lib.hid hlim
 have HFIT := Lib.hid hfit
 have HLEN := Lib.hid hlen
 have HNX := Lib.hid hn
 have HDX := Lib.hid hd
 have HCX := Lib.hid hc
 have HMX := Lib.hid hm
 have HMY := Lib.hid hm2
 have HUX := Lib.hid hxu
 have hb : Below w.heap.size w w := Below.refl _ _
 have H1 := Lib.hid (Fx.nil w)
 have H2 := Lib.hid (H1.out.base (hb))
 clear H1
 have H3 := Lib.hid (H2.out.krels (hk1))
 clear H2
 clear hb hk1 hlim hfit hlen hn hd hc hm hm2 hxu
 go_enter Try.func8, Try.ntmps8
 go_upto_region 1 with fail
 obtain ⟨blr1, hbl⟩ : ∃ b, w.heap.size = b := ⟨_, rfl⟩
 obtain ⟨W1, hW⟩ : ∃ W, w.alloc (.cells #[.slice lo1 l.length lc1, .int .u32 (n : Int), .string U] 40) = W := ⟨_, rfl⟩
 have hb : Below w.heap.size w W1 := by rw [← hW]; exact below_new _ _
 have hr : W1.heap[blr1]? = some (.cells #[.slice lo1 l.length lc1, .int .u32 (n : Int), .string U] 40 (0, 0)) := by rw [← hW, ← hbl]; exact new_row _ _ _
 rw [hW, hbl]
 clear hW hbl
 have H4 := Lib.hid (H3.out.below hb)
 clear hb H3
 have H5 := Lib.hid (H4.out.row (hr))
 clear H4
 clear hr
 go_wp2_with fail
 refine (first10 W1).mono ?_; rintro e w1 ⟨rfl, hb⟩
 have H6 := Lib.hid (H5.out.below hb)
 clear hb H5
 obtain ⟨xa0, xa1, xa2⟩ := row3 (H6.out.is.1)
 go_wp2_with fail
 refine (rs_room ((l, n), u) [.slice lo1 l.length lc1, .int .u32 (n : Int), .string U] _ w1 12000 HLIM.out HFIT.out HLEN.out HUX.out ⟨lo1, lc1, by rw [← HUN.out]; rfl, H6.out.is.2.1⟩ (by omega)).mono ?_; intro e w2 hpost
 obtain ⟨hb, r, rfl, HR⟩ := hpost
 clear xa0 xa1 xa2
 have H7 := Lib.hid (H6.out.below hb)
 clear hb H6
 by_cases hr0 : r < 0
 case pos =>
  have d1 : decide (r < 0) = true := decide_eq_true hr0
  clear hr0 HR
  go_wp2_with fail
  refine (first10 w2).mono ?_; rintro e w9 ⟨rfl, hb⟩
  have H8 := Lib.hid (H7.out.below hb)
  clear hb H7
  go_wp2_with fail
  go_ret
  exact ⟨rfl, H8.out.is.2.2.1⟩
 have d1 : decide (r < 0) = false := decide_eq_false hr0
 by_cases hc0 : c < 0
 case pos =>
  have d2 : decide (c < 0) = true := decide_eq_true hc0
  clear hc0 hr0 HR
  go_wp2_with fail
  refine (first10 w2).mono ?_; rintro e w9 ⟨rfl, hb⟩
  have H8 := Lib.hid (H7.out.below hb)
  clear hb H7
  go_wp2_with fail
  go_ret
  exact ⟨rfl, H8.out.is.2.2.1⟩
 have d2 : decide (c < 0) = false := decide_eq_false hc0
 by_cases hc1 : d < c
 case pos =>
  have d3 : decide (d < c) = true := decide_eq_true hc1
  clear hc1 hc0 hr0 HR
  go_wp2_with fail
  refine (first10 w2).mono ?_; rintro e w9 ⟨rfl, hb⟩
  have H8 := Lib.hid (H7.out.below hb)
  clear hb H7
  go_wp2_with fail
  go_ret
  exact ⟨rfl, H8.out.is.2.2.1⟩
 have d3 : decide (d < c) = false := decide_eq_false hc1
 have HW : Hid (20 + u.length + ksw l ≤ 12000) := Lib.hid (by have h := HR.out; unfold RoomOk at h; dsimp only at h; omega)
 have hfit : rs_fit ((l, n), u) := ⟨HFIT.out, HNX.out, by have h := HW.out; dsimp only; omega⟩
 have HRF := Lib.hid hfit
 have HC0 := Lib.hid hc0
 have HC1 := Lib.hid hc1
 clear HR hr0 hfit hc0 hc1
 obtain ⟨xa0, xa1, xa2⟩ := row3 (H7.out.is.1)
 go_wp2_with fail
 refine (rs_marshal ((l, n), u) [.slice lo1 l.length lc1, .int .u32 (n : Int), .string U] _ d w2 HRF.out ⟨lo1, lc1, by rw [← HUN.out]; rfl, H7.out.is.2.1⟩ HDX.out).mono ?_; rintro e w3 ⟨hb, hcase⟩
 rw [HMX.out, if_pos rfl] at hcase
 subst hcase
 have hq : IntKind.i64.wrap (d - c) = d - c := IntWalk.i64_in _ (by have := HDX.out; have := HCX.out; have := HC0.out; have := HC1.out; omega)
 have hdc : -9223372036854775808 ≤ d - c ∧ d - c ≤ 9223372036854775807 := by have := HDX.out; have := HCX.out; have := HC0.out; have := HC1.out; omega
 have HDC := Lib.hid hdc
 have hbk := rs_back HRF.out HMX.out
 obtain ⟨SS, hSS⟩ : ∃ S : ByteArray, (⟨(rs_out ((l, n), u)).toArray⟩ : ByteArray) = S := ⟨_, rfl⟩
 have hSL : SS.data.toList = rs_out ((l, n), u) := by rw [← hSS]
 have hsz : SS.size = (rs_out ((l, n), u)).length := by rw [← hSS]; simp [ByteArray.size]
 have HLM := Lib.hid (rs_lim HRF.out)
 have HU := Lib.hid (fun w' => unres_any (Lib.hid ukey_any) SS d w' (by have := HLM.out.2.2; omega) HDX.out)
 have HU2 := Lib.hid (fun w' => unres_any (Lib.hid ukey_any) SS (d - c) w' (by have := HLM.out.2.2; omega) hdc)
 rw [hSL, hbk] at HU
 rw [hSS]
 obtain ⟨ec, hec⟩ := rs_less HRF.out HMX.out (by have := HC0.out; omega) HMY.out
 rw [hSL, hec] at HU2
 clear hec
 clear hdc hbk hSS hSL hsz
 clear xa0 xa1 xa2
 have H8 := Lib.hid (H7.out.below hb)
 clear hb H7
 go_wp2_with fail
 refine (HU.out w3).mono ?_; rintro e w4 ⟨hb, cs, rfl, lo2, lc2, rfl, hk2⟩
 clear HU
 dsimp only [strV]
 rw [HUN.out]
 have H9 := Lib.hid (H8.out.below hb)
 clear hb H8
 have H10 := Lib.hid (H9.out.krels (hk2))
 clear H9
 clear hk2
 go_upto_region 9 with fail
 obtain ⟨blr2, hbl⟩ : ∃ b, w4.heap.size = b := ⟨_, rfl⟩
 obtain ⟨W5, hW⟩ : ∃ W, w4.alloc (.cells #[.slice lo2 l.length lc2, .int .u32 (n : Int), .string U] 40) = W := ⟨_, rfl⟩
 have hb : Below w4.heap.size w4 W5 := by rw [← hW]; exact below_new _ _
 have hr : W5.heap[blr2]? = some (.cells #[.slice lo2 l.length lc2, .int .u32 (n : Int), .string U] 40 (0, 0)) := by rw [← hW, ← hbl]; exact new_row _ _ _
 rw [hW, hbl]
 clear hW hbl
 have H11 := Lib.hid (H10.out.below hb)
 clear hb H10
 have H12 := Lib.hid (H11.out.row (hr))
 clear H11
 clear hr
 go_wp2_with fail
 refine (HU2.out W5).mono ?_; rintro e w6 ⟨hb, v4, q4, rfl, _, hew⟩
 obtain ⟨T4, y4, rfl⟩ := hew.iface
 clear hew HU2
 unfold rszero
 have H13 := Lib.hid (H12.out.below hb)
 clear hb H12
 go_upto_region 10 with fail
 obtain ⟨blr3, hbl⟩ : ∃ b, w6.heap.size = b := ⟨_, rfl⟩
 obtain ⟨W7, hW⟩ : ∃ W, w6.alloc (.cells #[.slice none 0 0, .int .u32 0, .string ⟨#[]⟩] 40) = W := ⟨_, rfl⟩
 have hb : Below w6.heap.size w6 W7 := by rw [← hW]; exact below_new _ _
 have hr : W7.heap[blr3]? = some (.cells #[.slice none 0 0, .int .u32 0, .string ⟨#[]⟩] 40 (0, 0)) := by rw [← hW, ← hbl]; exact new_row _ _ _
 rw [hW, hbl]
 clear hW hbl
 have H14 := Lib.hid (H13.out.below hb)
 clear hb H13
 have H15 := Lib.hid (H14.out.row (hr))
 clear H14
 clear hr
 obtain ⟨D, hD⟩ : ∃ D, W7.drew = D := ⟨_, rfl⟩
 have hb : Below W7.heap.size W7 D := by rw [← hD]; exact (Below.refl _ _).drew
 have H16 := Lib.hid (H15.out.below hb)
 clear hb H15
 have hS : R3w 40 blr1 #[.slice lo1 l.length lc1, .int .u32 (n : Int), .string U] blr2 #[.slice lo2 l.length lc2, .int .u32 (n : Int), .string U] blr3 #[.slice none 0 0, .int .u32 0, .string ⟨#[]⟩] D := ⟨H16.out.is.2.2.2.1, H16.out.is.2.1, H16.out.is.1⟩
 have hne : Nonempty {w' : World // R3w 40 blr1 #[.slice lo1 l.length lc1, .int .u32 (n : Int), .string U] blr2 #[.slice lo2 l.length lc2, .int .u32 (n : Int), .string U] blr3 #[.slice none 0 0, .int .u32 0, .string ⟨#[]⟩] w'} := ⟨⟨_, hS⟩⟩
 refine wp_region_seq (S := R3w 40 blr1 #[.slice lo1 l.length lc1, .int .u32 (n : Int), .string U] blr2 #[.slice lo2 l.length lc2, .int .u32 (n : Int), .string U] blr3 #[.slice none 0 0, .int .u32 0, .string ⟨#[]⟩]) [(0, false), (1, true), (2, true), (3, true), (4, true), (5, true), (6, true), (7, true), (8, false), (9, true), (10, true), (11, true), (12, true), (13, true), (14, true), (15, true), (16, true), (17, false), (18, true), (19, true), (20, true), (21, true), (22, true), (23, true), (24, true), (25, true), (26, false), (27, true), (28, true), (29, true)] (by kernel_rfl) (by kernel_rfl) (by kernel_rfl) (by kernel_rfl) (by rw [hD]; exact hS) ?_
 rw [hD]
 clear hD
 refine seq_come _ rfl (fun KC hK => ?_); go_simp
 refine (first10 D).mono ?_; rintro e w8 ⟨rfl, hb⟩
 have hS8 := hS.below hb
 have H17 := Lib.hid (H16.out.below hb)
 clear hb H16
 go_simp; refine hK.out _ _ hS8 ?_; clear hK KC
 iterate 5 (refine seq_take _ rfl (fun KC hK => ?_); go_simp; (first | refine hK _ ?_ | refine ⟨_, fun _ _ => rfl, hK _ ?_⟩); clear hK KC)
 refine seq_take _ rfl (fun KC hK => ?_); go_simp
 refine ⟨.agg #[.slice lo1 l.length lc1, .int .u32 (n : Int), .string U], fun a ha => by obtain ⟨p0, p1, p2⟩ := row3 ha.1; simp only [p0, p1, p2, Result.andThen], hK _ ?_⟩
 clear hK KC
 refine seq_take _ rfl (fun KC hK => ?_); go_simp
 refine ⟨.agg #[.slice lo2 l.length lc2, .int .u32 (n : Int), .string U], fun a ha => by obtain ⟨p0, p1, p2⟩ := row3 ha.2.1; simp only [p0, p1, p2, Result.andThen], hK _ ?_⟩
 clear hK KC
 refine seq_come _ rfl (fun KC hK => ?_); go_simp
 refine (rs_same ((l, n), u) ((l, n), u) [.slice lo1 l.length lc1, .int .u32 (n : Int), .string U] [.slice lo2 l.length lc2, .int .u32 (n : Int), .string U] _ _ w8 HLIM.out HLEN.out ⟨lo1, lc1, by rw [← HUN.out]; rfl, H17.out.is.2.2.2.2.1⟩ ⟨lo2, lc2, by rw [← HUN.out]; rfl, H17.out.is.2.2.1⟩).mono ?_; rintro e w9 ⟨rfl, hb⟩
 rw [alike_yes rfl]
 have hS9 := hS8.below hb
 have H18 := Lib.hid (H17.out.below hb)
 clear hb H17
 go_simp; refine hK.out _ _ hS9 ?_; clear hK KC
 iterate 4 (refine seq_take _ rfl (fun KC hK => ?_); go_simp; (first | refine hK _ ?_ | refine ⟨_, fun _ _ => rfl, hK _ ?_⟩); clear hK KC)
 refine seq_take _ rfl (fun KC hK => ?_); go_simp
 refine ⟨.agg #[.slice lo1 l.length lc1, .int .u32 (n : Int), .string U], fun a ha => by obtain ⟨p0, p1, p2⟩ := row3 ha.1; simp only [p0, p1, p2, Result.andThen], hK _ ?_⟩
 clear hK KC
 iterate 3 (refine seq_take _ rfl (fun KC hK => ?_); go_simp; (first | refine hK _ ?_ | refine ⟨_, fun _ _ => rfl, hK _ ?_⟩); clear hK KC)
 refine seq_come _ rfl (fun KC hK => ?_); go_simp
 refine (rs_mayc ((l, n), u) [.slice lo1 l.length lc1, .int .u32 (n : Int), .string U] _ (d - c) w9 HRF.out ⟨lo1, lc1, by rw [← HUN.out]; rfl, H18.out.is.2.2.2.2.1⟩ HDC.out).mono ?_; rintro e w10 ⟨rfl, hb⟩
 rw [HMY.out]
 have hS10 := hS9.below hb
 have H19 := Lib.hid (H18.out.below hb)
 clear hb H18
 go_simp; refine hK.out _ _ hS10 ?_; clear hK KC
 iterate 8 (refine seq_take _ rfl (fun KC hK => ?_); go_simp; (first | refine hK _ ?_ | refine ⟨_, fun _ _ => rfl, hK _ ?_⟩); clear hK KC)
 refine seq_come _ rfl (fun KC hK => ?_); go_simp
 refine hK.out _ _ hS10 ?_; clear hK KC
 iterate 3 (refine seq_take _ rfl (fun KC hK => ?_); go_simp; (first | refine hK _ ?_ | refine ⟨_, fun _ _ => rfl, hK _ ?_⟩); clear hK KC)
 refine seq_done ?_
 clear hne hS hS8 hS9 hS10
 go_wp2_with fail
 go_ret
 exact ⟨rfl, H19.out.is.2.2.2.2.2.1⟩
set_option maxRecDepth 1000000 in
set_option maxHeartbeats 16000000 in
theorem rsbk_TT (x : (List KV × Nat) × List UInt8) (cs : List Value) (P : Nat → Prop) (d c : Int) (w : World) (hlim : kslim x.1.1) (hfit : ksfit x.1.1) (hlen : x.1.1.length ≤ 9223372036854775807) (hn : x.1.2 < 4294967296) (hxu : x.2.length ≤ 9223372036854775807) (hr : RsRel w P x cs) (hd : -9223372036854775808 ≤ d ∧ d ≤ 9223372036854775807) (hc : -9223372036854775808 ≤ c ∧ c ≤ 9223372036854775807) (hm : rs_may d x = true) (hm2 : rs_may (d - c) x = true) :
 Calls Try.prog 8 #[.agg cs.toArray, .int .i64 d, .int .i64 c] w fun e w' => e = .returned (.bool true) ∧ Below w.heap.size w w' := by
 obtain ⟨lo1, lc1, rfl, hk1⟩ := hr
 obtain ⟨⟨l, n⟩, u⟩ := x
 dsimp only [strV]
 obtain ⟨U, eU⟩ : ∃ X : ByteArray, (⟨u.toArray⟩ : ByteArray) = X := ⟨_, rfl⟩
 have HUN := Lib.hid eU
 rw [eU]
 clear eU
 have HLIM := Lib.hid hlim
 have HFIT := Lib.hid hfit
 have HLEN := Lib.hid hlen
 have HNX := Lib.hid hn
 have HDX := Lib.hid hd
 have HCX := Lib.hid hc
 have HMX := Lib.hid hm
 have HMY := Lib.hid hm2
 have HUX := Lib.hid hxu
 have hb : Below w.heap.size w w := Below.refl _ _
 have H1 := Lib.hid (Fx.nil w)
 have H2 := Lib.hid (H1.out.base (hb))
 clear H1
 have H3 := Lib.hid (H2.out.krels (hk1))
 clear H2
 clear hb hk1 hlim hfit hlen hn hd hc hm hm2 hxu
 go_enter Try.func8, Try.ntmps8
 go_upto_region 1 with fail
 obtain ⟨blr1, hbl⟩ : ∃ b, w.heap.size = b := ⟨_, rfl⟩
 obtain ⟨W1, hW⟩ : ∃ W, w.alloc (.cells #[.slice lo1 l.length lc1, .int .u32 (n : Int), .string U] 40) = W := ⟨_, rfl⟩
 have hb : Below w.heap.size w W1 := by rw [← hW]; exact below_new _ _
 have hr : W1.heap[blr1]? = some (.cells #[.slice lo1 l.length lc1, .int .u32 (n : Int), .string U] 40 (0, 0)) := by rw [← hW, ← hbl]; exact new_row _ _ _
 rw [hW, hbl]
 clear hW hbl
 have H4 := Lib.hid (H3.out.below hb)
 clear hb H3
 have H5 := Lib.hid (H4.out.row (hr))
 clear H4
 clear hr
 go_wp2_with fail
 refine (first10 W1).mono ?_; rintro e w1 ⟨rfl, hb⟩
 have H6 := Lib.hid (H5.out.below hb)
 clear hb H5
 obtain ⟨xa0, xa1, xa2⟩ := row3 (H6.out.is.1)
 go_wp2_with fail
 refine (rs_room ((l, n), u) [.slice lo1 l.length lc1, .int .u32 (n : Int), .string U] _ w1 12000 HLIM.out HFIT.out HLEN.out HUX.out ⟨lo1, lc1, by rw [← HUN.out]; rfl, H6.out.is.2.1⟩ (by omega)).mono ?_; intro e w2 hpost
 obtain ⟨hb, r, rfl, HR⟩ := hpost
 clear xa0 xa1 xa2
 have H7 := Lib.hid (H6.out.below hb)
 clear hb H6
 by_cases hr0 : r < 0
 case pos =>
  have d1 : decide (r < 0) = true := decide_eq_true hr0
  clear hr0 HR
  go_wp2_with fail
  refine (first10 w2).mono ?_; rintro e w9 ⟨rfl, hb⟩
  have H8 := Lib.hid (H7.out.below hb)
  clear hb H7
  go_wp2_with fail
  go_ret
  exact ⟨rfl, H8.out.is.2.2.1⟩
 have d1 : decide (r < 0) = false := decide_eq_false hr0
 by_cases hc0 : c < 0
 case pos =>
  have d2 : decide (c < 0) = true := decide_eq_true hc0
  clear hc0 hr0 HR
  go_wp2_with fail
  refine (first10 w2).mono ?_; rintro e w9 ⟨rfl, hb⟩
  have H8 := Lib.hid (H7.out.below hb)
  clear hb H7
  go_wp2_with fail
  go_ret
  exact ⟨rfl, H8.out.is.2.2.1⟩
 have d2 : decide (c < 0) = false := decide_eq_false hc0
 by_cases hc1 : d < c
 case pos =>
  have d3 : decide (d < c) = true := decide_eq_true hc1
  clear hc1 hc0 hr0 HR
  go_wp2_with fail
  refine (first10 w2).mono ?_; rintro e w9 ⟨rfl, hb⟩
  have H8 := Lib.hid (H7.out.below hb)
  clear hb H7
  go_wp2_with fail
  go_ret
  exact ⟨rfl, H8.out.is.2.2.1⟩
 have d3 : decide (d < c) = false := decide_eq_false hc1
 have HW : Hid (20 + u.length + ksw l ≤ 12000) := Lib.hid (by have h := HR.out; unfold RoomOk at h; dsimp only at h; omega)
 have hfit : rs_fit ((l, n), u) := ⟨HFIT.out, HNX.out, by have h := HW.out; dsimp only; omega⟩
 have HRF := Lib.hid hfit
 have HC0 := Lib.hid hc0
 have HC1 := Lib.hid hc1
 clear HR hr0 hfit hc0 hc1
 obtain ⟨xa0, xa1, xa2⟩ := row3 (H7.out.is.1)
 go_wp2_with fail
 refine (rs_marshal ((l, n), u) [.slice lo1 l.length lc1, .int .u32 (n : Int), .string U] _ d w2 HRF.out ⟨lo1, lc1, by rw [← HUN.out]; rfl, H7.out.is.2.1⟩ HDX.out).mono ?_; rintro e w3 ⟨hb, hcase⟩
 rw [HMX.out, if_pos rfl] at hcase
 subst hcase
 have hq : IntKind.i64.wrap (d - c) = d - c := IntWalk.i64_in _ (by have := HDX.out; have := HCX.out; have := HC0.out; have := HC1.out; omega)
 have hdc : -9223372036854775808 ≤ d - c ∧ d - c ≤ 9223372036854775807 := by have := HDX.out; have := HCX.out; have := HC0.out; have := HC1.out; omega
 have HDC := Lib.hid hdc
 have hbk := rs_back HRF.out HMX.out
 obtain ⟨SS, hSS⟩ : ∃ S : ByteArray, (⟨(rs_out ((l, n), u)).toArray⟩ : ByteArray) = S := ⟨_, rfl⟩
 have hSL : SS.data.toList = rs_out ((l, n), u) := by rw [← hSS]
 have hsz : SS.size = (rs_out ((l, n), u)).length := by rw [← hSS]; simp [ByteArray.size]
 have HLM := Lib.hid (rs_lim HRF.out)
 have HU := Lib.hid (fun w' => unres_any (Lib.hid ukey_any) SS d w' (by have := HLM.out.2.2; omega) HDX.out)
 have HU2 := Lib.hid (fun w' => unres_any (Lib.hid ukey_any) SS (d - c) w' (by have := HLM.out.2.2; omega) hdc)
 rw [hSL, hbk] at HU
 rw [hSS]
 rw [hSL, rs_back HRF.out HMY.out] at HU2
 clear hdc hbk hSS hSL hsz
 clear xa0 xa1 xa2
 have H8 := Lib.hid (H7.out.below hb)
 clear hb H7
 go_wp2_with fail
 refine (HU.out w3).mono ?_; rintro e w4 ⟨hb, cs, rfl, lo2, lc2, rfl, hk2⟩
 clear HU
 dsimp only [strV]
 rw [HUN.out]
 have H9 := Lib.hid (H8.out.below hb)
 clear hb H8
 have H10 := Lib.hid (H9.out.krels (hk2))
 clear H9
 clear hk2
 go_upto_region 9 with fail
 obtain ⟨blr2, hbl⟩ : ∃ b, w4.heap.size = b := ⟨_, rfl⟩
 obtain ⟨W5, hW⟩ : ∃ W, w4.alloc (.cells #[.slice lo2 l.length lc2, .int .u32 (n : Int), .string U] 40) = W := ⟨_, rfl⟩
 have hb : Below w4.heap.size w4 W5 := by rw [← hW]; exact below_new _ _
 have hr : W5.heap[blr2]? = some (.cells #[.slice lo2 l.length lc2, .int .u32 (n : Int), .string U] 40 (0, 0)) := by rw [← hW, ← hbl]; exact new_row _ _ _
 rw [hW, hbl]
 clear hW hbl
 have H11 := Lib.hid (H10.out.below hb)
 clear hb H10
 have H12 := Lib.hid (H11.out.row (hr))
 clear H11
 clear hr
 go_wp2_with fail
 refine (HU2.out W5).mono ?_; rintro e w6 ⟨hb, cs, rfl, lo3, lc3, rfl, hk3⟩
 clear HU2
 dsimp only [strV]
 rw [HUN.out]
 have H13 := Lib.hid (H12.out.below hb)
 clear hb H12
 have H14 := Lib.hid (H13.out.krels (hk3))
 clear H13
 clear hk3
 go_upto_region 10 with fail
 obtain ⟨blr3, hbl⟩ : ∃ b, w6.heap.size = b := ⟨_, rfl⟩
 obtain ⟨W7, hW⟩ : ∃ W, w6.alloc (.cells #[.slice lo3 l.length lc3, .int .u32 (n : Int), .string U] 40) = W := ⟨_, rfl⟩
 have hb : Below w6.heap.size w6 W7 := by rw [← hW]; exact below_new _ _
 have hr : W7.heap[blr3]? = some (.cells #[.slice lo3 l.length lc3, .int .u32 (n : Int), .string U] 40 (0, 0)) := by rw [← hW, ← hbl]; exact new_row _ _ _
 rw [hW, hbl]
 clear hW hbl
 have H15 := Lib.hid (H14.out.below hb)
 clear hb H14
 have H16 := Lib.hid (H15.out.row (hr))
 clear H15
 clear hr
 obtain ⟨D, hD⟩ : ∃ D, W7.drew = D := ⟨_, rfl⟩
 have hb : Below W7.heap.size W7 D := by rw [← hD]; exact (Below.refl _ _).drew
 have H17 := Lib.hid (H16.out.below hb)
 clear hb H16
 have hS : R3w 40 blr1 #[.slice lo1 l.length lc1, .int .u32 (n : Int), .string U] blr2 #[.slice lo2 l.length lc2, .int .u32 (n : Int), .string U] blr3 #[.slice lo3 l.length lc3, .int .u32 (n : Int), .string U] D := ⟨H17.out.is.2.2.2.2.1, H17.out.is.2.2.1, H17.out.is.1⟩
 have hne : Nonempty {w' : World // R3w 40 blr1 #[.slice lo1 l.length lc1, .int .u32 (n : Int), .string U] blr2 #[.slice lo2 l.length lc2, .int .u32 (n : Int), .string U] blr3 #[.slice lo3 l.length lc3, .int .u32 (n : Int), .string U] w'} := ⟨⟨_, hS⟩⟩
 refine wp_region_seq (S := R3w 40 blr1 #[.slice lo1 l.length lc1, .int .u32 (n : Int), .string U] blr2 #[.slice lo2 l.length lc2, .int .u32 (n : Int), .string U] blr3 #[.slice lo3 l.length lc3, .int .u32 (n : Int), .string U]) [(0, false), (1, true), (2, true), (3, true), (4, true), (5, true), (6, true), (7, true), (8, false), (9, true), (10, true), (11, true), (12, true), (13, true), (14, true), (15, true), (16, true), (17, false), (18, true), (19, true), (20, true), (21, true), (22, true), (23, true), (24, true), (25, true), (26, false), (27, true), (28, true), (29, true)] (by kernel_rfl) (by kernel_rfl) (by kernel_rfl) (by kernel_rfl) (by rw [hD]; exact hS) ?_
 rw [hD]
 clear hD
 refine seq_come _ rfl (fun KC hK => ?_); go_simp
 refine (first10 D).mono ?_; rintro e w8 ⟨rfl, hb⟩
 have hS8 := hS.below hb
 have H18 := Lib.hid (H17.out.below hb)
 clear hb H17
 go_simp; refine hK.out _ _ hS8 ?_; clear hK KC
 iterate 5 (refine seq_take _ rfl (fun KC hK => ?_); go_simp; (first | refine hK _ ?_ | refine ⟨_, fun _ _ => rfl, hK _ ?_⟩); clear hK KC)
 refine seq_take _ rfl (fun KC hK => ?_); go_simp
 refine ⟨.agg #[.slice lo1 l.length lc1, .int .u32 (n : Int), .string U], fun a ha => by obtain ⟨p0, p1, p2⟩ := row3 ha.1; simp only [p0, p1, p2, Result.andThen], hK _ ?_⟩
 clear hK KC
 refine seq_take _ rfl (fun KC hK => ?_); go_simp
 refine ⟨.agg #[.slice lo2 l.length lc2, .int .u32 (n : Int), .string U], fun a ha => by obtain ⟨p0, p1, p2⟩ := row3 ha.2.1; simp only [p0, p1, p2, Result.andThen], hK _ ?_⟩
 clear hK KC
 refine seq_come _ rfl (fun KC hK => ?_); go_simp
 refine (rs_same ((l, n), u) ((l, n), u) [.slice lo1 l.length lc1, .int .u32 (n : Int), .string U] [.slice lo2 l.length lc2, .int .u32 (n : Int), .string U] _ _ w8 HLIM.out HLEN.out ⟨lo1, lc1, by rw [← HUN.out]; rfl, H18.out.is.2.2.2.2.2.1⟩ ⟨lo2, lc2, by rw [← HUN.out]; rfl, H18.out.is.2.2.2.1⟩).mono ?_; rintro e w9 ⟨rfl, hb⟩
 rw [alike_yes rfl]
 have hS9 := hS8.below hb
 have H19 := Lib.hid (H18.out.below hb)
 clear hb H18
 go_simp; refine hK.out _ _ hS9 ?_; clear hK KC
 iterate 4 (refine seq_take _ rfl (fun KC hK => ?_); go_simp; (first | refine hK _ ?_ | refine ⟨_, fun _ _ => rfl, hK _ ?_⟩); clear hK KC)
 refine seq_take _ rfl (fun KC hK => ?_); go_simp
 refine ⟨.agg #[.slice lo1 l.length lc1, .int .u32 (n : Int), .string U], fun a ha => by obtain ⟨p0, p1, p2⟩ := row3 ha.1; simp only [p0, p1, p2, Result.andThen], hK _ ?_⟩
 clear hK KC
 iterate 3 (refine seq_take _ rfl (fun KC hK => ?_); go_simp; (first | refine hK _ ?_ | refine ⟨_, fun _ _ => rfl, hK _ ?_⟩); clear hK KC)
 refine seq_come _ rfl (fun KC hK => ?_); go_simp
 refine (rs_mayc ((l, n), u) [.slice lo1 l.length lc1, .int .u32 (n : Int), .string U] _ (d - c) w9 HRF.out ⟨lo1, lc1, by rw [← HUN.out]; rfl, H19.out.is.2.2.2.2.2.1⟩ HDC.out).mono ?_; rintro e w10 ⟨rfl, hb⟩
 rw [HMY.out]
 have hS10 := hS9.below hb
 have H20 := Lib.hid (H19.out.below hb)
 clear hb H19
 go_simp; refine hK.out _ _ hS10 ?_; clear hK KC
 iterate 6 (refine seq_take _ rfl (fun KC hK => ?_); go_simp; (first | refine hK _ ?_ | refine ⟨_, fun _ _ => rfl, hK _ ?_⟩); clear hK KC)
 refine seq_take _ rfl (fun KC hK => ?_); go_simp
 refine ⟨.agg #[.slice lo1 l.length lc1, .int .u32 (n : Int), .string U], fun a ha => by obtain ⟨p0, p1, p2⟩ := row3 ha.1; simp only [p0, p1, p2, Result.andThen], hK _ ?_⟩
 clear hK KC
 refine seq_take _ rfl (fun KC hK => ?_); go_simp
 refine ⟨.agg #[.slice lo3 l.length lc3, .int .u32 (n : Int), .string U], fun a ha => by obtain ⟨p0, p1, p2⟩ := row3 ha.2.2; simp only [p0, p1, p2, Result.andThen], hK _ ?_⟩
 clear hK KC
 refine seq_come _ rfl (fun KC hK => ?_); go_simp
 refine (rs_same ((l, n), u) ((l, n), u) [.slice lo1 l.length lc1, .int .u32 (n : Int), .string U] [.slice lo3 l.length lc3, .int .u32 (n : Int), .string U] _ _ w10 HLIM.out HLEN.out ⟨lo1, lc1, by rw [← HUN.out]; rfl, H20.out.is.2.2.2.2.2.1⟩ ⟨lo3, lc3, by rw [← HUN.out]; rfl, H20.out.is.2.1⟩).mono ?_; rintro e w11 ⟨rfl, hb⟩
 rw [alike_yes rfl]
 have hS11 := hS10.below hb
 have H21 := Lib.hid (H20.out.below hb)
 clear hb H20
 go_simp; refine hK.out _ _ hS11 ?_; clear hK KC
 iterate 3 (refine seq_take _ rfl (fun KC hK => ?_); go_simp; (first | refine hK _ ?_ | refine ⟨_, fun _ _ => rfl, hK _ ?_⟩); clear hK KC)
 refine seq_done ?_
 clear hne hS hS8 hS9 hS10 hS11
 go_wp2_with fail
 go_ret
 exact ⟨rfl, H21.out.is.2.2.2.2.2.2.1⟩
set_option maxRecDepth 1000000 in
set_option maxHeartbeats 16000000 in
theorem rsbk_any (x : (List KV × Nat) × List UInt8) (cs : List Value) (P : Nat → Prop) (d c : Int) (w : World) (hlim : kslim x.1.1) (hfit : ksfit x.1.1) (hlen : x.1.1.length ≤ 9223372036854775807) (hn : x.1.2 < 4294967296) (hxu : x.2.length ≤ 9223372036854775807) (hr : RsRel w P x cs) (hd : -9223372036854775808 ≤ d ∧ d ≤ 9223372036854775807) (hc : -9223372036854775808 ≤ c ∧ c ≤ 9223372036854775807) :
 Calls Try.prog 8 #[.agg cs.toArray, .int .i64 d, .int .i64 c] w fun e w' => e = .returned (.bool true) ∧ Below w.heap.size w w' := by
 cases hm : rs_may d x with
 | false => exact rsbk_F x cs P d c w hlim hfit hlen hn hxu hr hd hc hm
 | true =>
  cases hm2 : rs_may (d - c) x with
  | false => exact rsbk_TF x cs P d c w hlim hfit hlen hn hxu hr hd hc hm hm2
  | true => exact rsbk_TT x cs P d c w hlim hfit hlen hn hxu hr hd hc hm hm2
set_option maxRecDepth 1000000 in
set_option maxHeartbeats 16000000 in
theorem scbk_F (x : (List UInt8 × List UInt8 × List KV × Nat) × List UInt8) (cs : List Value) (P : Nat → Prop) (d c : Int) (w : World) (hlim : kslim x.1.2.2.1) (hfit : ksfit x.1.2.2.1) (hlen : x.1.2.2.1.length ≤ 9223372036854775807) (hn : x.1.2.2.2 < 4294967296) (hxa : x.1.1.length ≤ 9223372036854775807) (hxb : x.1.2.1.length ≤ 9223372036854775807) (hxu : x.2.length ≤ 9223372036854775807) (hr : ScRel w P x cs) (hd : -9223372036854775808 ≤ d ∧ d ≤ 9223372036854775807) (hc : -9223372036854775808 ≤ c ∧ c ≤ 9223372036854775807) (hm : sc_may d x = false) :
 Calls Try.prog 4 #[.agg cs.toArray, .int .i64 d, .int .i64 c] w fun e w' => e = .returned (.bool true) ∧ Below w.heap.size w w' := by
 obtain ⟨lo1, lc1, rfl, hk1⟩ := hr
 obtain ⟨⟨a, b, l, n⟩, u⟩ := x
 dsimp only [strV]
 obtain ⟨A, eA⟩ : ∃ X : ByteArray, (⟨a.toArray⟩ : ByteArray) = X := ⟨_, rfl⟩
 have HAN := Lib.hid eA
 obtain ⟨B, eB⟩ : ∃ X : ByteArray, (⟨b.toArray⟩ : ByteArray) = X := ⟨_, rfl⟩
 have HBN := Lib.hid eB
 obtain ⟨U, eU⟩ : ∃ X : ByteArray, (⟨u.toArray⟩ : ByteArray) = X := ⟨_, rfl⟩
 have HUN := Lib.hid eU
 rw [eA, eB, eU]
 clear eA eB eU
 have HLIM := Lib.hid hlim
 have HFIT := Lib.hid hfit
 have HLEN := Lib.hid hlen
 have HNX := Lib.hid hn
 have HDX := Lib.hid hd
 have HCX := Lib.hid hc
 have HMX := Lib.hid hm
 have HAX := Lib.hid hxa
 have HBX := Lib.hid hxb
 have HUX := Lib.hid hxu
 have hb : Below w.heap.size w w := Below.refl _ _
 have H1 := Lib.hid (Fx.nil w)
 have H2 := Lib.hid (H1.out.base (hb))
 clear H1
 have H3 := Lib.hid (H2.out.krels (hk1))
 clear H2
 clear hb hk1 hlim hfit hlen hn hd hc hm hxa hxb hxu
 go_enter Try.func4, Try.ntmps4
 go_upto_region 1 with fail
 obtain ⟨blr1, hbl⟩ : ∃ b, w.heap.size = b := ⟨_, rfl⟩
 obtain ⟨W1, hW⟩ : ∃ W, w.alloc (.cells #[.string A, .string B, .slice lo1 l.length lc1, .int .u32 (n : Int), .string U] 25) = W := ⟨_, rfl⟩
 have hb : Below w.heap.size w W1 := by rw [← hW]; exact below_new _ _
 have hr : W1.heap[blr1]? = some (.cells #[.string A, .string B, .slice lo1 l.length lc1, .int .u32 (n : Int), .string U] 25 (0, 0)) := by rw [← hW, ← hbl]; exact new_row _ _ _
 rw [hW, hbl]
 clear hW hbl
 have H4 := Lib.hid (H3.out.below hb)
 clear hb H3
 have H5 := Lib.hid (H4.out.row (hr))
 clear H4
 clear hr
 go_wp2_with fail
 refine (first10 W1).mono ?_; rintro e w1 ⟨rfl, hb⟩
 have H6 := Lib.hid (H5.out.below hb)
 clear hb H5
 obtain ⟨xa0, xa1, xa2, xa3, xa4⟩ := row5 (H6.out.is.1)
 go_wp2_with fail
 refine (sc_room ((a, b, l, n), u) [.string A, .string B, .slice lo1 l.length lc1, .int .u32 (n : Int), .string U] _ w1 12000 HLIM.out HFIT.out HLEN.out HAX.out HBX.out HUX.out ⟨lo1, lc1, by rw [← HAN.out, ← HBN.out, ← HUN.out]; rfl, H6.out.is.2.1⟩ (by omega)).mono ?_; intro e w2 hpost
 obtain ⟨hb, r, rfl, HR⟩ := hpost
 clear xa0 xa1 xa2 xa3 xa4
 have H7 := Lib.hid (H6.out.below hb)
 clear hb H6
 by_cases hr0 : r < 0
 case pos =>
  have d1 : decide (r < 0) = true := decide_eq_true hr0
  clear hr0 HR
  go_wp2_with fail
  refine (first10 w2).mono ?_; rintro e w9 ⟨rfl, hb⟩
  have H8 := Lib.hid (H7.out.below hb)
  clear hb H7
  go_wp2_with fail
  go_ret
  exact ⟨rfl, H8.out.is.2.2.1⟩
 have d1 : decide (r < 0) = false := decide_eq_false hr0
 by_cases hc0 : c < 0
 case pos =>
  have d2 : decide (c < 0) = true := decide_eq_true hc0
  clear hc0 hr0 HR
  go_wp2_with fail
  refine (first10 w2).mono ?_; rintro e w9 ⟨rfl, hb⟩
  have H8 := Lib.hid (H7.out.below hb)
  clear hb H7
  go_wp2_with fail
  go_ret
  exact ⟨rfl, H8.out.is.2.2.1⟩
 have d2 : decide (c < 0) = false := decide_eq_false hc0
 by_cases hc1 : d < c
 case pos =>
  have d3 : decide (d < c) = true := decide_eq_true hc1
  clear hc1 hc0 hr0 HR
  go_wp2_with fail
  refine (first10 w2).mono ?_; rintro e w9 ⟨rfl, hb⟩
  have H8 := Lib.hid (H7.out.below hb)
  clear hb H7
  go_wp2_with fail
  go_ret
  exact ⟨rfl, H8.out.is.2.2.1⟩
 have d3 : decide (d < c) = false := decide_eq_false hc1
 have HW : Hid (60 + a.length + b.length + u.length + ksw l ≤ 12000) := Lib.hid (by have h := HR.out; unfold RoomOk at h; dsimp only at h; omega)
 have hfit : sc_fit ((a, b, l, n), u) := ⟨HFIT.out, HNX.out, by have h := HW.out; dsimp only; omega⟩
 have HRF := Lib.hid hfit
 have HC0 := Lib.hid hc0
 have HC1 := Lib.hid hc1
 clear HR hr0 hfit hc0 hc1
 obtain ⟨xa0, xa1, xa2, xa3, xa4⟩ := row5 (H7.out.is.1)
 go_wp2_with fail
 refine (sc_marshal ((a, b, l, n), u) [.string A, .string B, .slice lo1 l.length lc1, .int .u32 (n : Int), .string U] _ d w2 HRF.out ⟨lo1, lc1, by rw [← HAN.out, ← HBN.out, ← HUN.out]; rfl, H7.out.is.2.1⟩ HDX.out).mono ?_; rintro e w3 ⟨hb, hcase⟩
 rw [HMX.out, if_neg (by simp)] at hcase
 obtain ⟨v, rfl, hec⟩ := hcase
 obtain ⟨T', y, rfl⟩ := hec.iface
 clear hec
 clear xa0 xa1 xa2 xa3 xa4
 have H8 := Lib.hid (H7.out.below hb)
 clear hb H7
 go_wp2_with fail
 refine (first10 w3).mono ?_; rintro e w4 ⟨rfl, hb⟩
 have H9 := Lib.hid (H8.out.below hb)
 clear hb H8
 go_wp2_with fail
 go_ret
 exact ⟨rfl, H9.out.is.2.2.1⟩
set_option maxRecDepth 1000000 in
set_option maxHeartbeats 16000000 in
theorem scbk_TF (x : (List UInt8 × List UInt8 × List KV × Nat) × List UInt8) (cs : List Value) (P : Nat → Prop) (d c : Int) (w : World) (hlim : kslim x.1.2.2.1) (hfit : ksfit x.1.2.2.1) (hlen : x.1.2.2.1.length ≤ 9223372036854775807) (hn : x.1.2.2.2 < 4294967296) (hxa : x.1.1.length ≤ 9223372036854775807) (hxb : x.1.2.1.length ≤ 9223372036854775807) (hxu : x.2.length ≤ 9223372036854775807) (hr : ScRel w P x cs) (hd : -9223372036854775808 ≤ d ∧ d ≤ 9223372036854775807) (hc : -9223372036854775808 ≤ c ∧ c ≤ 9223372036854775807) (hm : sc_may d x = true) (hm2 : sc_may (d - c) x = false) :
 Calls Try.prog 4 #[.agg cs.toArray, .int .i64 d, .int .i64 c] w fun e w' => e = .returned (.bool true) ∧ Below w.heap.size w w' := by
 obtain ⟨lo1, lc1, rfl, hk1⟩ := hr
 obtain ⟨⟨a, b, l, n⟩, u⟩ := x
 dsimp only [strV]
 obtain ⟨A, eA⟩ : ∃ X : ByteArray, (⟨a.toArray⟩ : ByteArray) = X := ⟨_, rfl⟩
 have HAN := Lib.hid eA
 obtain ⟨B, eB⟩ : ∃ X : ByteArray, (⟨b.toArray⟩ : ByteArray) = X := ⟨_, rfl⟩
 have HBN := Lib.hid eB
 obtain ⟨U, eU⟩ : ∃ X : ByteArray, (⟨u.toArray⟩ : ByteArray) = X := ⟨_, rfl⟩
 have HUN := Lib.hid eU
 rw [eA, eB, eU]
 clear eA eB eU
 have HLIM := Lib.hid hlim
 have HFIT := Lib.hid hfit
 have HLEN := Lib.hid hlen
 have HNX := Lib.hid hn
 have HDX := Lib.hid hd
 have HCX := Lib.hid hc
 have HMX := Lib.hid hm
 have HMY := Lib.hid hm2
 have HAX := Lib.hid hxa
 have HBX := Lib.hid hxb
 have HUX := Lib.hid hxu
 have hb : Below w.heap.size w w := Below.refl _ _
 have H1 := Lib.hid (Fx.nil w)
 have H2 := Lib.hid (H1.out.base (hb))
 clear H1
 have H3 := Lib.hid (H2.out.krels (hk1))
 clear H2
 clear hb hk1 hlim hfit hlen hn hd hc hm hm2 hxa hxb hxu
 go_enter Try.func4, Try.ntmps4
 go_upto_region 1 with fail
 obtain ⟨blr1, hbl⟩ : ∃ b, w.heap.size = b := ⟨_, rfl⟩
 obtain ⟨W1, hW⟩ : ∃ W, w.alloc (.cells #[.string A, .string B, .slice lo1 l.length lc1, .int .u32 (n : Int), .string U] 25) = W := ⟨_, rfl⟩
 have hb : Below w.heap.size w W1 := by rw [← hW]; exact below_new _ _
 have hr : W1.heap[blr1]? = some (.cells #[.string A, .string B, .slice lo1 l.length lc1, .int .u32 (n : Int), .string U] 25 (0, 0)) := by rw [← hW, ← hbl]; exact new_row _ _ _
 rw [hW, hbl]
 clear hW hbl
 have H4 := Lib.hid (H3.out.below hb)
 clear hb H3
 have H5 := Lib.hid (H4.out.row (hr))
 clear H4
 clear hr
 go_wp2_with fail
 refine (first10 W1).mono ?_; rintro e w1 ⟨rfl, hb⟩
 have H6 := Lib.hid (H5.out.below hb)
 clear hb H5
 obtain ⟨xa0, xa1, xa2, xa3, xa4⟩ := row5 (H6.out.is.1)
 go_wp2_with fail
 refine (sc_room ((a, b, l, n), u) [.string A, .string B, .slice lo1 l.length lc1, .int .u32 (n : Int), .string U] _ w1 12000 HLIM.out HFIT.out HLEN.out HAX.out HBX.out HUX.out ⟨lo1, lc1, by rw [← HAN.out, ← HBN.out, ← HUN.out]; rfl, H6.out.is.2.1⟩ (by omega)).mono ?_; intro e w2 hpost
 obtain ⟨hb, r, rfl, HR⟩ := hpost
 clear xa0 xa1 xa2 xa3 xa4
 have H7 := Lib.hid (H6.out.below hb)
 clear hb H6
 by_cases hr0 : r < 0
 case pos =>
  have d1 : decide (r < 0) = true := decide_eq_true hr0
  clear hr0 HR
  go_wp2_with fail
  refine (first10 w2).mono ?_; rintro e w9 ⟨rfl, hb⟩
  have H8 := Lib.hid (H7.out.below hb)
  clear hb H7
  go_wp2_with fail
  go_ret
  exact ⟨rfl, H8.out.is.2.2.1⟩
 have d1 : decide (r < 0) = false := decide_eq_false hr0
 by_cases hc0 : c < 0
 case pos =>
  have d2 : decide (c < 0) = true := decide_eq_true hc0
  clear hc0 hr0 HR
  go_wp2_with fail
  refine (first10 w2).mono ?_; rintro e w9 ⟨rfl, hb⟩
  have H8 := Lib.hid (H7.out.below hb)
  clear hb H7
  go_wp2_with fail
  go_ret
  exact ⟨rfl, H8.out.is.2.2.1⟩
 have d2 : decide (c < 0) = false := decide_eq_false hc0
 by_cases hc1 : d < c
 case pos =>
  have d3 : decide (d < c) = true := decide_eq_true hc1
  clear hc1 hc0 hr0 HR
  go_wp2_with fail
  refine (first10 w2).mono ?_; rintro e w9 ⟨rfl, hb⟩
  have H8 := Lib.hid (H7.out.below hb)
  clear hb H7
  go_wp2_with fail
  go_ret
  exact ⟨rfl, H8.out.is.2.2.1⟩
 have d3 : decide (d < c) = false := decide_eq_false hc1
 have HW : Hid (60 + a.length + b.length + u.length + ksw l ≤ 12000) := Lib.hid (by have h := HR.out; unfold RoomOk at h; dsimp only at h; omega)
 have hfit : sc_fit ((a, b, l, n), u) := ⟨HFIT.out, HNX.out, by have h := HW.out; dsimp only; omega⟩
 have HRF := Lib.hid hfit
 have HC0 := Lib.hid hc0
 have HC1 := Lib.hid hc1
 clear HR hr0 hfit hc0 hc1
 obtain ⟨xa0, xa1, xa2, xa3, xa4⟩ := row5 (H7.out.is.1)
 go_wp2_with fail
 refine (sc_marshal ((a, b, l, n), u) [.string A, .string B, .slice lo1 l.length lc1, .int .u32 (n : Int), .string U] _ d w2 HRF.out ⟨lo1, lc1, by rw [← HAN.out, ← HBN.out, ← HUN.out]; rfl, H7.out.is.2.1⟩ HDX.out).mono ?_; rintro e w3 ⟨hb, hcase⟩
 rw [HMX.out, if_pos rfl] at hcase
 subst hcase
 have hq : IntKind.i64.wrap (d - c) = d - c := IntWalk.i64_in _ (by have := HDX.out; have := HCX.out; have := HC0.out; have := HC1.out; omega)
 have hdc : -9223372036854775808 ≤ d - c ∧ d - c ≤ 9223372036854775807 := by have := HDX.out; have := HCX.out; have := HC0.out; have := HC1.out; omega
 have HDC := Lib.hid hdc
 have hbk := sc_back HRF.out HMX.out
 obtain ⟨SS, hSS⟩ : ∃ S : ByteArray, (⟨(sc_out ((a, b, l, n), u)).toArray⟩ : ByteArray) = S := ⟨_, rfl⟩
 have hSL : SS.data.toList = sc_out ((a, b, l, n), u) := by rw [← hSS]
 have hsz : SS.size = (sc_out ((a, b, l, n), u)).length := by rw [← hSS]; simp [ByteArray.size]
 have HLM := Lib.hid (sc_lim HRF.out)
 have HU := Lib.hid (fun w' => unsc_any (Lib.hid ukey_any) SS d w' (by have := HLM.out.2.2; omega) HDX.out)
 have HU2 := Lib.hid (fun w' => unsc_any (Lib.hid ukey_any) SS (d - c) w' (by have := HLM.out.2.2; omega) hdc)
 rw [hSL, hbk] at HU
 rw [hSS]
 obtain ⟨ec, hec⟩ := sc_less HRF.out HMX.out (by have := HC0.out; omega) HMY.out
 rw [hSL, hec] at HU2
 clear hec
 clear hdc hbk hSS hSL hsz
 clear xa0 xa1 xa2 xa3 xa4
 have H8 := Lib.hid (H7.out.below hb)
 clear hb H7
 go_wp2_with fail
 refine (HU.out w3).mono ?_; rintro e w4 ⟨hb, cs, rfl, lo2, lc2, rfl, hk2⟩
 clear HU
 dsimp only [strV]
 rw [HAN.out, HBN.out, HUN.out]
 have H9 := Lib.hid (H8.out.below hb)
 clear hb H8
 have H10 := Lib.hid (H9.out.krels (hk2))
 clear H9
 clear hk2
 go_upto_region 9 with fail
 obtain ⟨blr2, hbl⟩ : ∃ b, w4.heap.size = b := ⟨_, rfl⟩
 obtain ⟨W5, hW⟩ : ∃ W, w4.alloc (.cells #[.string A, .string B, .slice lo2 l.length lc2, .int .u32 (n : Int), .string U] 25) = W := ⟨_, rfl⟩
 have hb : Below w4.heap.size w4 W5 := by rw [← hW]; exact below_new _ _
 have hr : W5.heap[blr2]? = some (.cells #[.string A, .string B, .slice lo2 l.length lc2, .int .u32 (n : Int), .string U] 25 (0, 0)) := by rw [← hW, ← hbl]; exact new_row _ _ _
 rw [hW, hbl]
 clear hW hbl
 have H11 := Lib.hid (H10.out.below hb)
 clear hb H10
 have H12 := Lib.hid (H11.out.row (hr))
 clear H11
 clear hr
 go_wp2_with fail
 refine (HU2.out W5).mono ?_; rintro e w6 ⟨hb, v4, q4, rfl, _, hew⟩
 obtain ⟨T4, y4, rfl⟩ := hew.iface
 clear hew HU2
 unfold sczero
 have H13 := Lib.hid (H12.out.below hb)
 clear hb H12
 go_upto_region 10 with fail
 obtain ⟨blr3, hbl⟩ : ∃ b, w6.heap.size = b := ⟨_, rfl⟩
 obtain ⟨W7, hW⟩ : ∃ W, w6.alloc (.cells #[.string ⟨#[]⟩, .string ⟨#[]⟩, .slice none 0 0, .int .u32 0, .string ⟨#[]⟩] 25) = W := ⟨_, rfl⟩
 have hb : Below w6.heap.size w6 W7 := by rw [← hW]; exact below_new _ _
 have hr : W7.heap[blr3]? = some (.cells #[.string ⟨#[]⟩, .string ⟨#[]⟩, .slice none 0 0, .int .u32 0, .string ⟨#[]⟩] 25 (0, 0)) := by rw [← hW, ← hbl]; exact new_row _ _ _
 rw [hW, hbl]
 clear hW hbl
 have H14 := Lib.hid (H13.out.below hb)
 clear hb H13
 have H15 := Lib.hid (H14.out.row (hr))
 clear H14
 clear hr
 obtain ⟨D, hD⟩ : ∃ D, W7.drew = D := ⟨_, rfl⟩
 have hb : Below W7.heap.size W7 D := by rw [← hD]; exact (Below.refl _ _).drew
 have H16 := Lib.hid (H15.out.below hb)
 clear hb H15
 have hS : R3w 25 blr1 #[.string A, .string B, .slice lo1 l.length lc1, .int .u32 (n : Int), .string U] blr2 #[.string A, .string B, .slice lo2 l.length lc2, .int .u32 (n : Int), .string U] blr3 #[.string ⟨#[]⟩, .string ⟨#[]⟩, .slice none 0 0, .int .u32 0, .string ⟨#[]⟩] D := ⟨H16.out.is.2.2.2.1, H16.out.is.2.1, H16.out.is.1⟩
 have hne : Nonempty {w' : World // R3w 25 blr1 #[.string A, .string B, .slice lo1 l.length lc1, .int .u32 (n : Int), .string U] blr2 #[.string A, .string B, .slice lo2 l.length lc2, .int .u32 (n : Int), .string U] blr3 #[.string ⟨#[]⟩, .string ⟨#[]⟩, .slice none 0 0, .int .u32 0, .string ⟨#[]⟩] w'} := ⟨⟨_, hS⟩⟩
 refine wp_region_seq (S := R3w 25 blr1 #[.string A, .string B, .slice lo1 l.length lc1, .int .u32 (n : Int), .string U] blr2 #[.string A, .string B, .slice lo2 l.length lc2, .int .u32 (n : Int), .string U] blr3 #[.string ⟨#[]⟩, .string ⟨#[]⟩, .slice none 0 0, .int .u32 0, .string ⟨#[]⟩]) [(0, false), (1, true), (2, true), (3, true), (4, true), (5, true), (6, true), (7, true), (8, false), (9, true), (10, true), (11, true), (12, true), (13, true), (14, true), (15, true), (16, true), (17, false), (18, true), (19, true), (20, true), (21, true), (22, true), (23, true), (24, true), (25, true), (26, false), (27, true), (28, true), (29, true)] (by kernel_rfl) (by kernel_rfl) (by kernel_rfl) (by kernel_rfl) (by rw [hD]; exact hS) ?_
 rw [hD]
 clear hD
 refine seq_come _ rfl (fun KC hK => ?_); go_simp
 refine (first10 D).mono ?_; rintro e w8 ⟨rfl, hb⟩
 have hS8 := hS.below hb
 have H17 := Lib.hid (H16.out.below hb)
 clear hb H16
 go_simp; refine hK.out _ _ hS8 ?_; clear hK KC
 iterate 5 (refine seq_take _ rfl (fun KC hK => ?_); go_simp; (first | refine hK _ ?_ | refine ⟨_, fun _ _ => rfl, hK _ ?_⟩); clear hK KC)
 refine seq_take _ rfl (fun KC hK => ?_); go_simp
 refine ⟨.agg #[.string A, .string B, .slice lo1 l.length lc1, .int .u32 (n : Int), .string U], fun a ha => by obtain ⟨p0, p1, p2, p3, p4⟩ := row5 ha.1; simp only [p0, p1, p2, p3, p4, Result.andThen], hK _ ?_⟩
 clear hK KC
 refine seq_take _ rfl (fun KC hK => ?_); go_simp
 refine ⟨.agg #[.string A, .string B, .slice lo2 l.length lc2, .int .u32 (n : Int), .string U], fun a ha => by obtain ⟨p0, p1, p2, p3, p4⟩ := row5 ha.2.1; simp only [p0, p1, p2, p3, p4, Result.andThen], hK _ ?_⟩
 clear hK KC
 refine seq_come _ rfl (fun KC hK => ?_); go_simp
 refine (sc_same ((a, b, l, n), u) ((a, b, l, n), u) [.string A, .string B, .slice lo1 l.length lc1, .int .u32 (n : Int), .string U] [.string A, .string B, .slice lo2 l.length lc2, .int .u32 (n : Int), .string U] _ _ w8 HLIM.out HLEN.out ⟨lo1, lc1, by rw [← HAN.out, ← HBN.out, ← HUN.out]; rfl, H17.out.is.2.2.2.2.1⟩ ⟨lo2, lc2, by rw [← HAN.out, ← HBN.out, ← HUN.out]; rfl, H17.out.is.2.2.1⟩).mono ?_; rintro e w9 ⟨rfl, hb⟩
 rw [alike_yes rfl]
 have hS9 := hS8.below hb
 have H18 := Lib.hid (H17.out.below hb)
 clear hb H17
 go_simp; refine hK.out _ _ hS9 ?_; clear hK KC
 iterate 4 (refine seq_take _ rfl (fun KC hK => ?_); go_simp; (first | refine hK _ ?_ | refine ⟨_, fun _ _ => rfl, hK _ ?_⟩); clear hK KC)
 refine seq_take _ rfl (fun KC hK => ?_); go_simp
 refine ⟨.agg #[.string A, .string B, .slice lo1 l.length lc1, .int .u32 (n : Int), .string U], fun a ha => by obtain ⟨p0, p1, p2, p3, p4⟩ := row5 ha.1; simp only [p0, p1, p2, p3, p4, Result.andThen], hK _ ?_⟩
 clear hK KC
 iterate 3 (refine seq_take _ rfl (fun KC hK => ?_); go_simp; (first | refine hK _ ?_ | refine ⟨_, fun _ _ => rfl, hK _ ?_⟩); clear hK KC)
 refine seq_come _ rfl (fun KC hK => ?_); go_simp
 refine (sc_mayc ((a, b, l, n), u) [.string A, .string B, .slice lo1 l.length lc1, .int .u32 (n : Int), .string U] _ (d - c) w9 HRF.out ⟨lo1, lc1, by rw [← HAN.out, ← HBN.out, ← HUN.out]; rfl, H18.out.is.2.2.2.2.1⟩ HDC.out).mono ?_; rintro e w10 ⟨rfl, hb⟩
 rw [HMY.out]
 have hS10 := hS9.below hb
 have H19 := Lib.hid (H18.out.below hb)
 clear hb H18
 go_simp; refine hK.out _ _ hS10 ?_; clear hK KC
 iterate 8 (refine seq_take _ rfl (fun KC hK => ?_); go_simp; (first | refine hK _ ?_ | refine ⟨_, fun _ _ => rfl, hK _ ?_⟩); clear hK KC)
 refine seq_come _ rfl (fun KC hK => ?_); go_simp
 refine hK.out _ _ hS10 ?_; clear hK KC
 iterate 3 (refine seq_take _ rfl (fun KC hK => ?_); go_simp; (first | refine hK _ ?_ | refine ⟨_, fun _ _ => rfl, hK _ ?_⟩); clear hK KC)
 refine seq_done ?_
 clear hne hS hS8 hS9 hS10
 go_wp2_with fail
 go_ret
 exact ⟨rfl, H19.out.is.2.2.2.2.2.1⟩
set_option maxRecDepth 1000000 in
set_option maxHeartbeats 16000000 in
theorem scbk_TT (x : (List UInt8 × List UInt8 × List KV × Nat) × List UInt8) (cs : List Value) (P : Nat → Prop) (d c : Int) (w : World) (hlim : kslim x.1.2.2.1) (hfit : ksfit x.1.2.2.1) (hlen : x.1.2.2.1.length ≤ 9223372036854775807) (hn : x.1.2.2.2 < 4294967296) (hxa : x.1.1.length ≤ 9223372036854775807) (hxb : x.1.2.1.length ≤ 9223372036854775807) (hxu : x.2.length ≤ 9223372036854775807) (hr : ScRel w P x cs) (hd : -9223372036854775808 ≤ d ∧ d ≤ 9223372036854775807) (hc : -9223372036854775808 ≤ c ∧ c ≤ 9223372036854775807) (hm : sc_may d x = true) (hm2 : sc_may (d - c) x = true) :
 Calls Try.prog 4 #[.agg cs.toArray, .int .i64 d, .int .i64 c] w fun e w' => e = .returned (.bool true) ∧ Below w.heap.size w w' := by
 obtain ⟨lo1, lc1, rfl, hk1⟩ := hr
 obtain ⟨⟨a, b, l, n⟩, u⟩ := x
 dsimp only [strV]
 obtain ⟨A, eA⟩ : ∃ X : ByteArray, (⟨a.toArray⟩ : ByteArray) = X := ⟨_, rfl⟩
 have HAN := Lib.hid eA
 obtain ⟨B, eB⟩ : ∃ X : ByteArray, (⟨b.toArray⟩ : ByteArray) = X := ⟨_, rfl⟩
 have HBN := Lib.hid eB
 obtain ⟨U, eU⟩ : ∃ X : ByteArray, (⟨u.toArray⟩ : ByteArray) = X := ⟨_, rfl⟩
 have HUN := Lib.hid eU
 rw [eA, eB, eU]
 clear eA eB eU
 have HLIM := Lib.hid hlim
 have HFIT := Lib.hid hfit
 have HLEN := Lib.hid hlen
 have HNX := Lib.hid hn
 have HDX := Lib.hid hd
 have HCX := Lib.hid hc
 have HMX := Lib.hid hm
 have HMY := Lib.hid hm2
 have HAX := Lib.hid hxa
 have HBX := Lib.hid hxb
 have HUX := Lib.hid hxu
 have hb : Below w.heap.size w w := Below.refl _ _
 have H1 := Lib.hid (Fx.nil w)
 have H2 := Lib.hid (H1.out.base (hb))
 clear H1
 have H3 := Lib.hid (H2.out.krels (hk1))
 clear H2
 clear hb hk1 hlim hfit hlen hn hd hc hm hm2 hxa hxb hxu
 go_enter Try.func4, Try.ntmps4
 go_upto_region 1 with fail
 obtain ⟨blr1, hbl⟩ : ∃ b, w.heap.size = b := ⟨_, rfl⟩
 obtain ⟨W1, hW⟩ : ∃ W, w.alloc (.cells #[.string A, .string B, .slice lo1 l.length lc1, .int .u32 (n : Int), .string U] 25) = W := ⟨_, rfl⟩
 have hb : Below w.heap.size w W1 := by rw [← hW]; exact below_new _ _
 have hr : W1.heap[blr1]? = some (.cells #[.string A, .string B, .slice lo1 l.length lc1, .int .u32 (n : Int), .string U] 25 (0, 0)) := by rw [← hW, ← hbl]; exact new_row _ _ _
 rw [hW, hbl]
 clear hW hbl
 have H4 := Lib.hid (H3.out.below hb)
 clear hb H3
 have H5 := Lib.hid (H4.out.row (hr))
 clear H4
 clear hr
 go_wp2_with fail
 refine (first10 W1).mono ?_; rintro e w1 ⟨rfl, hb⟩
 have H6 := Lib.hid (H5.out.below hb)
 clear hb H5
 obtain ⟨xa0, xa1, xa2, xa3, xa4⟩ := row5 (H6.out.is.1)
 go_wp2_with fail
 refine (sc_room ((a, b, l, n), u) [.string A, .string B, .slice lo1 l.length lc1, .int .u32 (n : Int), .string U] _ w1 12000 HLIM.out HFIT.out HLEN.out HAX.out HBX.out HUX.out ⟨lo1, lc1, by rw [← HAN.out, ← HBN.out, ← HUN.out]; rfl, H6.out.is.2.1⟩ (by omega)).mono ?_; intro e w2 hpost
 obtain ⟨hb, r, rfl, HR⟩ := hpost
 clear xa0 xa1 xa2 xa3 xa4
 have H7 := Lib.hid (H6.out.below hb)
 clear hb H6
 by_cases hr0 : r < 0
 case pos =>
  have d1 : decide (r < 0) = true := decide_eq_true hr0
  clear hr0 HR
  go_wp2_with fail
  refine (first10 w2).mono ?_; rintro e w9 ⟨rfl, hb⟩
  have H8 := Lib.hid (H7.out.below hb)
  clear hb H7
  go_wp2_with fail
  go_ret
  exact ⟨rfl, H8.out.is.2.2.1⟩
 have d1 : decide (r < 0) = false := decide_eq_false hr0
 by_cases hc0 : c < 0
 case pos =>
  have d2 : decide (c < 0) = true := decide_eq_true hc0
  clear hc0 hr0 HR
  go_wp2_with fail
  refine (first10 w2).mono ?_; rintro e w9 ⟨rfl, hb⟩
  have H8 := Lib.hid (H7.out.below hb)
  clear hb H7
  go_wp2_with fail
  go_ret
  exact ⟨rfl, H8.out.is.2.2.1⟩
 have d2 : decide (c < 0) = false := decide_eq_false hc0
 by_cases hc1 : d < c
 case pos =>
  have d3 : decide (d < c) = true := decide_eq_true hc1
  clear hc1 hc0 hr0 HR
  go_wp2_with fail
  refine (first10 w2).mono ?_; rintro e w9 ⟨rfl, hb⟩
  have H8 := Lib.hid (H7.out.below hb)
  clear hb H7
  go_wp2_with fail
  go_ret
  exact ⟨rfl, H8.out.is.2.2.1⟩
 have d3 : decide (d < c) = false := decide_eq_false hc1
 have HW : Hid (60 + a.length + b.length + u.length + ksw l ≤ 12000) := Lib.hid (by have h := HR.out; unfold RoomOk at h; dsimp only at h; omega)
 have hfit : sc_fit ((a, b, l, n), u) := ⟨HFIT.out, HNX.out, by have h := HW.out; dsimp only; omega⟩
 have HRF := Lib.hid hfit
 have HC0 := Lib.hid hc0
 have HC1 := Lib.hid hc1
 clear HR hr0 hfit hc0 hc1
 obtain ⟨xa0, xa1, xa2, xa3, xa4⟩ := row5 (H7.out.is.1)
 go_wp2_with fail
 refine (sc_marshal ((a, b, l, n), u) [.string A, .string B, .slice lo1 l.length lc1, .int .u32 (n : Int), .string U] _ d w2 HRF.out ⟨lo1, lc1, by rw [← HAN.out, ← HBN.out, ← HUN.out]; rfl, H7.out.is.2.1⟩ HDX.out).mono ?_; rintro e w3 ⟨hb, hcase⟩
 rw [HMX.out, if_pos rfl] at hcase
 subst hcase
 have hq : IntKind.i64.wrap (d - c) = d - c := IntWalk.i64_in _ (by have := HDX.out; have := HCX.out; have := HC0.out; have := HC1.out; omega)
 have hdc : -9223372036854775808 ≤ d - c ∧ d - c ≤ 9223372036854775807 := by have := HDX.out; have := HCX.out; have := HC0.out; have := HC1.out; omega
 have HDC := Lib.hid hdc
 have hbk := sc_back HRF.out HMX.out
 obtain ⟨SS, hSS⟩ : ∃ S : ByteArray, (⟨(sc_out ((a, b, l, n), u)).toArray⟩ : ByteArray) = S := ⟨_, rfl⟩
 have hSL : SS.data.toList = sc_out ((a, b, l, n), u) := by rw [← hSS]
 have hsz : SS.size = (sc_out ((a, b, l, n), u)).length := by rw [← hSS]; simp [ByteArray.size]
 have HLM := Lib.hid (sc_lim HRF.out)
 have HU := Lib.hid (fun w' => unsc_any (Lib.hid ukey_any) SS d w' (by have := HLM.out.2.2; omega) HDX.out)
 have HU2 := Lib.hid (fun w' => unsc_any (Lib.hid ukey_any) SS (d - c) w' (by have := HLM.out.2.2; omega) hdc)
 rw [hSL, hbk] at HU
 rw [hSS]
 rw [hSL, sc_back HRF.out HMY.out] at HU2
 clear hdc hbk hSS hSL hsz
 clear xa0 xa1 xa2 xa3 xa4
 have H8 := Lib.hid (H7.out.below hb)
 clear hb H7
 go_wp2_with fail
 refine (HU.out w3).mono ?_; rintro e w4 ⟨hb, cs, rfl, lo2, lc2, rfl, hk2⟩
 clear HU
 dsimp only [strV]
 rw [HAN.out, HBN.out, HUN.out]
 have H9 := Lib.hid (H8.out.below hb)
 clear hb H8
 have H10 := Lib.hid (H9.out.krels (hk2))
 clear H9
 clear hk2
 go_upto_region 9 with fail
 obtain ⟨blr2, hbl⟩ : ∃ b, w4.heap.size = b := ⟨_, rfl⟩
 obtain ⟨W5, hW⟩ : ∃ W, w4.alloc (.cells #[.string A, .string B, .slice lo2 l.length lc2, .int .u32 (n : Int), .string U] 25) = W := ⟨_, rfl⟩
 have hb : Below w4.heap.size w4 W5 := by rw [← hW]; exact below_new _ _
 have hr : W5.heap[blr2]? = some (.cells #[.string A, .string B, .slice lo2 l.length lc2, .int .u32 (n : Int), .string U] 25 (0, 0)) := by rw [← hW, ← hbl]; exact new_row _ _ _
 rw [hW, hbl]
 clear hW hbl
 have H11 := Lib.hid (H10.out.below hb)
 clear hb H10
 have H12 := Lib.hid (H11.out.row (hr))
 clear H11
 clear hr
 go_wp2_with fail
 refine (HU2.out W5).mono ?_; rintro e w6 ⟨hb, cs, rfl, lo3, lc3, rfl, hk3⟩
 clear HU2
 dsimp only [strV]
 rw [HAN.out, HBN.out, HUN.out]
 have H13 := Lib.hid (H12.out.below hb)
 clear hb H12
 have H14 := Lib.hid (H13.out.krels (hk3))
 clear H13
 clear hk3
 go_upto_region 10 with fail
 obtain ⟨blr3, hbl⟩ : ∃ b, w6.heap.size = b := ⟨_, rfl⟩
 obtain ⟨W7, hW⟩ : ∃ W, w6.alloc (.cells #[.string A, .string B, .slice lo3 l.length lc3, .int .u32 (n : Int), .string U] 25) = W := ⟨_, rfl⟩
 have hb : Below w6.heap.size w6 W7 := by rw [← hW]; exact below_new _ _
 have hr : W7.heap[blr3]? = some (.cells #[.string A, .string B, .slice lo3 l.length lc3, .int .u32 (n : Int), .string U] 25 (0, 0)) := by rw [← hW, ← hbl]; exact new_row _ _ _
 rw [hW, hbl]
 clear hW hbl
 have H15 := Lib.hid (H14.out.below hb)
 clear hb H14
 have H16 := Lib.hid (H15.out.row (hr))
 clear H15
 clear hr
 obtain ⟨D, hD⟩ : ∃ D, W7.drew = D := ⟨_, rfl⟩
 have hb : Below W7.heap.size W7 D := by rw [← hD]; exact (Below.refl _ _).drew
 have H17 := Lib.hid (H16.out.below hb)
 clear hb H16
 have hS : R3w 25 blr1 #[.string A, .string B, .slice lo1 l.length lc1, .int .u32 (n : Int), .string U] blr2 #[.string A, .string B, .slice lo2 l.length lc2, .int .u32 (n : Int), .string U] blr3 #[.string A, .string B, .slice lo3 l.length lc3, .int .u32 (n : Int), .string U] D := ⟨H17.out.is.2.2.2.2.1, H17.out.is.2.2.1, H17.out.is.1⟩
 have hne : Nonempty {w' : World // R3w 25 blr1 #[.string A, .string B, .slice lo1 l.length lc1, .int .u32 (n : Int), .string U] blr2 #[.string A, .string B, .slice lo2 l.length lc2, .int .u32 (n : Int), .string U] blr3 #[.string A, .string B, .slice lo3 l.length lc3, .int .u32 (n : Int), .string U] w'} := ⟨⟨_, hS⟩⟩
 refine wp_region_seq (S := R3w 25 blr1 #[.string A, .string B, .slice lo1 l.length lc1, .int .u32 (n : Int), .string U] blr2 #[.string A, .string B, .slice lo2 l.length lc2, .int .u32 (n : Int), .string U] blr3 #[.string A, .string B, .slice lo3 l.length lc3, .int .u32 (n : Int), .string U]) [(0, false), (1, true), (2, true), (3, true), (4, true), (5, true), (6, true), (7, true), (8, false), (9, true), (10, true), (11, true), (12, true), (13, true), (14, true), (15, true), (16, true), (17, false), (18, true), (19, true), (20, true), (21, true), (22, true), (23, true), (24, true), (25, true), (26, false), (27, true), (28, true), (29, true)] (by kernel_rfl) (by kernel_rfl) (by kernel_rfl) (by kernel_rfl) (by rw [hD]; exact hS) ?_
 rw [hD]
 clear hD
 refine seq_come _ rfl (fun KC hK => ?_); go_simp
 refine (first10 D).mono ?_; rintro e w8 ⟨rfl, hb⟩
 have hS8 := hS.below hb
 have H18 := Lib.hid (H17.out.below hb)
 clear hb H17
 go_simp; refine hK.out _ _ hS8 ?_; clear hK KC
 iterate 5 (refine seq_take _ rfl (fun KC hK => ?_); go_simp; (first | refine hK _ ?_ | refine ⟨_, fun _ _ => rfl, hK _ ?_⟩); clear hK KC)
 refine seq_take _ rfl (fun KC hK => ?_); go_simp
 refine ⟨.agg #[.string A, .string B, .slice lo1 l.length lc1, .int .u32 (n : Int), .string U], fun a ha => by obtain ⟨p0, p1, p2, p3, p4⟩ := row5 ha.1; simp only [p0, p1, p2, p3, p4, Result.andThen], hK _ ?_⟩
 clear hK KC
 refine seq_take _ rfl (fun KC hK => ?_); go_simp
 refine ⟨.agg #[.string A, .string B, .slice lo2 l.length lc2, .int .u32 (n : Int), .string U], fun a ha => by obtain ⟨p0, p1, p2, p3, p4⟩ := row5 ha.2.1; simp only [p0, p1, p2, p3, p4, Result.andThen], hK _ ?_⟩
 clear hK KC
 refine seq_come _ rfl (fun KC hK => ?_); go_simp
 refine (sc_same ((a, b, l, n), u) ((a, b, l, n), u) [.string A, .string B, .slice lo1 l.length lc1, .int .u32 (n : Int), .string U] [.string A, .string B, .slice lo2 l.length lc2, .int .u32 (n : Int), .string U] _ _ w8 HLIM.out HLEN.out ⟨lo1, lc1, by rw [← HAN.out, ← HBN.out, ← HUN.out]; rfl, H18.out.is.2.2.2.2.2.1⟩ ⟨lo2, lc2, by rw [← HAN.out, ← HBN.out, ← HUN.out]; rfl, H18.out.is.2.2.2.1⟩).mono ?_; rintro e w9 ⟨rfl, hb⟩
 rw [alike_yes rfl]
 have hS9 := hS8.below hb
 have H19 := Lib.hid (H18.out.below hb)
 clear hb H18
 go_simp; refine hK.out _ _ hS9 ?_; clear hK KC
 iterate 4 (refine seq_take _ rfl (fun KC hK => ?_); go_simp; (first | refine hK _ ?_ | refine ⟨_, fun _ _ => rfl, hK _ ?_⟩); clear hK KC)
 refine seq_take _ rfl (fun KC hK => ?_); go_simp
 refine ⟨.agg #[.string A, .string B, .slice lo1 l.length lc1, .int .u32 (n : Int), .string U], fun a ha => by obtain ⟨p0, p1, p2, p3, p4⟩ := row5 ha.1; simp only [p0, p1, p2, p3, p4, Result.andThen], hK _ ?_⟩
 clear hK KC
 iterate 3 (refine seq_take _ rfl (fun KC hK => ?_); go_simp; (first | refine hK _ ?_ | refine ⟨_, fun _ _ => rfl, hK _ ?_⟩); clear hK KC)
 refine seq_come _ rfl (fun KC hK => ?_); go_simp
 refine (sc_mayc ((a, b, l, n), u) [.string A, .string B, .slice lo1 l.length lc1, .int .u32 (n : Int), .string U] _ (d - c) w9 HRF.out ⟨lo1, lc1, by rw [← HAN.out, ← HBN.out, ← HUN.out]; rfl, H19.out.is.2.2.2.2.2.1⟩ HDC.out).mono ?_; rintro e w10 ⟨rfl, hb⟩
 rw [HMY.out]
 have hS10 := hS9.below hb
 have H20 := Lib.hid (H19.out.below hb)
 clear hb H19
 go_simp; refine hK.out _ _ hS10 ?_; clear hK KC
 iterate 6 (refine seq_take _ rfl (fun KC hK => ?_); go_simp; (first | refine hK _ ?_ | refine ⟨_, fun _ _ => rfl, hK _ ?_⟩); clear hK KC)
 refine seq_take _ rfl (fun KC hK => ?_); go_simp
 refine ⟨.agg #[.string A, .string B, .slice lo1 l.length lc1, .int .u32 (n : Int), .string U], fun a ha => by obtain ⟨p0, p1, p2, p3, p4⟩ := row5 ha.1; simp only [p0, p1, p2, p3, p4, Result.andThen], hK _ ?_⟩
 clear hK KC
 refine seq_take _ rfl (fun KC hK => ?_); go_simp
 refine ⟨.agg #[.string A, .string B, .slice lo3 l.length lc3, .int .u32 (n : Int), .string U], fun a ha => by obtain ⟨p0, p1, p2, p3, p4⟩ := row5 ha.2.2; simp only [p0, p1, p2, p3, p4, Result.andThen], hK _ ?_⟩
 clear hK KC
 refine seq_come _ rfl (fun KC hK => ?_); go_simp
 refine (sc_same ((a, b, l, n), u) ((a, b, l, n), u) [.string A, .string B, .slice lo1 l.length lc1, .int .u32 (n : Int), .string U] [.string A, .string B, .slice lo3 l.length lc3, .int .u32 (n : Int), .string U] _ _ w10 HLIM.out HLEN.out ⟨lo1, lc1, by rw [← HAN.out, ← HBN.out, ← HUN.out]; rfl, H20.out.is.2.2.2.2.2.1⟩ ⟨lo3, lc3, by rw [← HAN.out, ← HBN.out, ← HUN.out]; rfl, H20.out.is.2.1⟩).mono ?_; rintro e w11 ⟨rfl, hb⟩
 rw [alike_yes rfl]
 have hS11 := hS10.below hb
 have H21 := Lib.hid (H20.out.below hb)
 clear hb H20
 go_simp; refine hK.out _ _ hS11 ?_; clear hK KC
 iterate 3 (refine seq_take _ rfl (fun KC hK => ?_); go_simp; (first | refine hK _ ?_ | refine ⟨_, fun _ _ => rfl, hK _ ?_⟩); clear hK KC)
 refine seq_done ?_
 clear hne hS hS8 hS9 hS10 hS11
 go_wp2_with fail
 go_ret
 exact ⟨rfl, H21.out.is.2.2.2.2.2.2.1⟩
set_option maxRecDepth 1000000 in
set_option maxHeartbeats 16000000 in
theorem scbk_any (x : (List UInt8 × List UInt8 × List KV × Nat) × List UInt8) (cs : List Value) (P : Nat → Prop) (d c : Int) (w : World) (hlim : kslim x.1.2.2.1) (hfit : ksfit x.1.2.2.1) (hlen : x.1.2.2.1.length ≤ 9223372036854775807) (hn : x.1.2.2.2 < 4294967296) (hxa : x.1.1.length ≤ 9223372036854775807) (hxb : x.1.2.1.length ≤ 9223372036854775807) (hxu : x.2.length ≤ 9223372036854775807) (hr : ScRel w P x cs) (hd : -9223372036854775808 ≤ d ∧ d ≤ 9223372036854775807) (hc : -9223372036854775808 ≤ c ∧ c ≤ 9223372036854775807) :
 Calls Try.prog 4 #[.agg cs.toArray, .int .i64 d, .int .i64 c] w fun e w' => e = .returned (.bool true) ∧ Below w.heap.size w w' := by
 cases hm : sc_may d x with
 | false => exact scbk_F x cs P d c w hlim hfit hlen hn hxa hxb hxu hr hd hc hm
 | true =>
  cases hm2 : sc_may (d - c) x with
  | false => exact scbk_TF x cs P d c w hlim hfit hlen hn hxa hxb hxu hr hd hc hm hm2
  | true => exact scbk_TT x cs P d c w hlim hfit hlen hn hxa hxb hxu hr hd hc hm hm2
end Go.Proofs.Ytbdbmkmebeemoaa
