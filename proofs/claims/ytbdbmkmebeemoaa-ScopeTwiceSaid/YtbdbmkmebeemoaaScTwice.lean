/-
  scope.MayRes, May; hyglaw10.ResourceTwice, ScopeTwice.
-/
import Derived.Test.YtbdbmkmebeemoaaScSame
namespace Go.Proofs.Ytbdbmkmebeemoaa
open Go.RowKit

mutual
theorem vlim_of : ∀ (x : Val), vw x ≤ 9223372036854775807 → vlim x
  | .mk k s b n l m i u, h => by
    rw [vw] at h
    rw [vlim]
    have h1 := vsw_len l
    have h2 := ksw_len m
    exact ⟨by omega, by omega, vslim_ofw l (by omega), kslim_ofw m (by omega)⟩
theorem klim_of : ∀ (x : KV), kw x ≤ 9223372036854775807 → klim x
  | .mk key has v u, h => by
    rw [kw] at h
    rw [klim]
    exact vlim_of v (by omega)
theorem vslim_ofw : ∀ (l : List Val), vsw l ≤ 9223372036854775807 → vslim l
  | [], _ => by rw [vslim]; trivial
  | x :: l, h => by
    rw [vsw] at h
    rw [vslim]
    exact ⟨vlim_of x (by omega), vslim_ofw l (by omega)⟩
theorem kslim_ofw : ∀ (l : List KV), ksw l ≤ 9223372036854775807 → kslim l
  | [], _ => by rw [kslim]; trivial
  | x :: l, h => by
    rw [ksw] at h
    rw [kslim]
    exact ⟨klim_of x (by omega), kslim_ofw l (by omega)⟩
end
theorem rN_len20 (num n : Nat) : (rN num n).raw.length ≤ 20 := by
  show (vput (8 * num + 0) ++ vput n).length ≤ 20
  rw [List.length_append]
  have := vput_le10 (8 * num + 0)
  have := vput_le10 n
  omega
theorem rs_lim {x : (List KV × Nat) × List UInt8} (h : rs_fit x) : kslim x.1.1 ∧ x.1.1.length ≤ 9223372036854775807 ∧ (rs_out x).length ≤ 500000 := by
  obtain ⟨⟨l, n⟩, u⟩ := x
  obtain ⟨_, _, h3⟩ := h
  dsimp only at h3
  have h1 := ksw_len l
  refine ⟨kslim_ofw l (by omega), by show l.length ≤ _; omega, ?_⟩
  show (kouts 1 l ++ (if n = 0 then [] else (rN 2 n).raw) ++ u).length ≤ _
  have h4 := kouts_le 1 (by omega) l
  have h5 := rN_len20 2 n
  rw [List.length_append, List.length_append]
  split
  · simp; omega
  · omega
theorem sc_lim {x : (List UInt8 × List UInt8 × List KV × Nat) × List UInt8} (h : sc_fit x) : kslim x.1.2.2.1 ∧ x.1.2.2.1.length ≤ 9223372036854775807 ∧ (sc_out x).length ≤ 500000 := by
  obtain ⟨⟨a, b, l, n⟩, u⟩ := x
  obtain ⟨_, _, h3⟩ := h
  dsimp only at h3
  have h1 := ksw_len l
  refine ⟨kslim_ofw l (by omega), by show l.length ≤ _; omega, ?_⟩
  show ((if a = [] then [] else (rB 1 a).raw) ++ (if b = [] then [] else (rB 2 b).raw) ++ kouts 3 l ++ (if n = 0 then [] else (rN 4 n).raw) ++ u).length ≤ _
  have h4 := kouts_le 3 (by omega) l
  have h5 := rN_len20 4 n
  have h6 := rB_len20 1 a
  have h7 := rB_len20 2 b
  simp only [List.length_append]
  have e1 : (if a = [] then [] else (rB 1 a).raw).length ≤ 20 + a.length := by
    split
    · simp
    · omega
  have e2 : (if b = [] then [] else (rB 2 b).raw).length ≤ 20 + b.length := by
    split
    · simp
    · omega
  have e3 : (if n = 0 then [] else (rN 4 n).raw).length ≤ 20 := by
    split
    · simp
    · omega
  omega
set_option maxRecDepth 1000000 in
set_option maxHeartbeats 8000000 in
theorem rs_mayc (x : (List KV × Nat) × List UInt8) (cs : List Value) (Q : Nat → Prop) (d : Int) (w : World) (hf : rs_fit x) (hr : RsRel w Q x cs) (hd : -9223372036854775808 ≤ d ∧ d ≤ 9223372036854775807) :
 Calls Try.prog 25 #[.agg cs.toArray, .int .i64 d] w fun e w' => e = .returned (.bool (rs_may d x)) ∧ Below w.heap.size w w' := by
 have HM := Lib.hid (fun w' (hb : Below w.heap.size w w') => rs_marshal x cs Q d w' hf (rsCel.upd (Upd.of_new (S := fun _ => False) hb) (fun _ _ h => h) (fun _ h => h) hr) hd)
 obtain ⟨lo1, lc1, rfl, _⟩ := hr
 obtain ⟨⟨l, n⟩, u⟩ := x
 obtain ⟨g, hg⟩ : ∃ g, rs_may d (((l, n), u)) = g := ⟨_, rfl⟩
 rw [hg] at HM ⊢
 dsimp only [strV] at HM ⊢
 obtain ⟨U, hU⟩ : ∃ U : ByteArray, (⟨u.toArray⟩ : ByteArray) = U := ⟨_, rfl⟩
 rw [hU] at HM ⊢
 clear hU
 obtain ⟨W, hW⟩ : ∃ W, w.alloc (.cells #[.slice lo1 l.length lc1, .int .u32 (n : Int), .string U] 40) = W := ⟨_, rfl⟩
 have HB0 : Hid (Below w.heap.size w W) := Lib.hid (by rw [← hW]; exact below_new _ _)
 have HW := Lib.hid hW
 clear hW hf hg hd
 go_enter Try.func25, Try.ntmps25
 go_wp2_with fail
 rw [HW.out]
 refine (HM.out W HB0.out).mono ?_; rintro e w1 ⟨hb, hcase⟩
 have HB1 := Lib.hid (below_step HB0.out hb)
 clear hb
 cases g with
 | true =>
  rw [if_pos rfl] at hcase
  subst hcase
  go_wp2_with fail
  go_ret
  exact ⟨rfl, HB1.out⟩
 | false =>
  rw [if_neg (by simp)] at hcase
  obtain ⟨v, rfl, hec⟩ := hcase
  obtain ⟨T', y, rfl⟩ := hec.iface
  clear hec
  go_wp2_with fail
  go_ret
  exact ⟨rfl, HB1.out⟩
set_option maxRecDepth 1000000 in
set_option maxHeartbeats 16000000 in
theorem rstw_no (s : ByteArray) (d : Int) (w : World) (hs : s.size ≤ 6000) (hd : -9223372036854775808 ≤ d ∧ d ≤ 9223372036854775807) {c : Nat} (hv : rsrd s.data.toList d = .error c) :
 Calls Try.prog 9 #[.string s, .int .i64 d] w fun e w' => e = .returned (.bool true) ∧ Below w.heap.size w w' := by
 have HD := Lib.hid hd
 have hsl : s.data.toList.length = s.size := by simp
 have HU := Lib.hid (fun w' => unres_any (Lib.hid ukey_any) s d w' (by omega) hd)
 rw [hv] at HU
 have q0 : decide ((6000 : Int) < (s.size : Int)) = false := decide_eq_false (by omega)
 have hb : Below w.heap.size w w := Below.refl _ _
 have H1 := Lib.hid (Fx.nil w)
 have H2 := Lib.hid (H1.out.base (hb))
 clear H1
 clear hb hd hv hsl hs
 go_enter Try.func9, Try.ntmps9
 go_wp2_with fail
 refine (first10 w).mono ?_; rintro e w1 ⟨rfl, hb⟩
 have H3 := Lib.hid (H2.out.below hb)
 clear hb H2
 go_wp2_with fail
 refine (HU.out w1).mono ?_; rintro e w2 ⟨hb, v4, q4, rfl, _, hew⟩
 obtain ⟨T4, y4, rfl⟩ := hew.iface
 clear hew HU
 unfold rszero
 have H4 := Lib.hid (H3.out.below hb)
 clear hb H3
 go_wp2_with fail
 obtain ⟨blr2, hbl⟩ : ∃ b, w2.heap.size = b := ⟨_, rfl⟩
 obtain ⟨W3, hW⟩ : ∃ W, w2.alloc (.cells #[.slice none 0 0, .int .u32 0, .string ⟨#[]⟩] 40) = W := ⟨_, rfl⟩
 have hb : Below w2.heap.size w2 W3 := by rw [← hW]; exact below_new _ _
 have hr : W3.heap[blr2]? = some (.cells #[.slice none 0 0, .int .u32 0, .string ⟨#[]⟩] 40 (0, 0)) := by rw [← hW, ← hbl]; exact new_row _ _ _
 rw [hW, hbl]
 clear hW hbl
 have H5 := Lib.hid (H4.out.below hb)
 clear hb H4
 have H6 := Lib.hid (H5.out.row (hr))
 clear H5
 clear hr
 refine (first10 W3).mono ?_; rintro e w4 ⟨rfl, hb⟩
 have H7 := Lib.hid (H6.out.below hb)
 clear hb H6
 obtain ⟨xa0, xa1, xa2⟩ := row3 (H7.out.is.1)
 go_wp2_with fail
 refine (rs_same (([], 0), []) (([], 0), []) [.slice none 0 0, .int .u32 0, .string ⟨#[]⟩] [.slice none 0 0, .int .u32 0, .string ⟨#[]⟩] (fun _ => True) (fun _ => True) w4 (by rw [kslim]; trivial) (by simp) ⟨none, 0, rfl, by rw [KRels]; trivial⟩ ⟨none, 0, rfl, by rw [KRels]; trivial⟩).mono ?_; rintro e w5 ⟨rfl, hb⟩
 rw [alike_yes rfl]
 clear xa0 xa1 xa2
 have H8 := Lib.hid (H7.out.below hb)
 clear hb H7
 go_wp2_with fail
 go_ret
 exact ⟨rfl, H8.out.is.2.1⟩
set_option maxRecDepth 1000000 in
set_option maxHeartbeats 16000000 in
theorem rstw_ok (s : ByteArray) (d : Int) (w : World) (hs : s.size ≤ 6000) (hd : -9223372036854775808 ≤ d ∧ d ≤ 9223372036854775807) {x : (List KV × Nat) × List UInt8} (hv : rsrd s.data.toList d = .ok x) :
 Calls Try.prog 9 #[.string s, .int .i64 d] w fun e w' => e = .returned (.bool true) ∧ Below w.heap.size w w' := by
 have HD := Lib.hid hd
 have hsl : s.data.toList.length = s.size := by simp
 have HU := Lib.hid (fun w' => unres_any (Lib.hid ukey_any) s d w' (by omega) hd)
 rw [hv] at HU
 have q0 : decide ((6000 : Int) < (s.size : Int)) = false := decide_eq_false (by omega)
 have hb : Below w.heap.size w w := Below.refl _ _
 obtain ⟨⟨l, n⟩, u⟩ := x
 obtain ⟨hmay, hfit⟩ := rs_twice (by omega) hv
 have hlim := rs_lim hfit
 have hbk := rs_back hfit hmay
 obtain ⟨SS, hSS⟩ : ∃ S : ByteArray, (⟨(rs_out (((l, n), u))).toArray⟩ : ByteArray) = S := ⟨_, rfl⟩
 have hSL : SS.data.toList = rs_out (((l, n), u)) := by rw [← hSS]
 have hsz : SS.size = (rs_out (((l, n), u))).length := by rw [← hSS]; simp [ByteArray.size]
 have HU2 := Lib.hid (fun w' => unres_any (Lib.hid ukey_any) SS d w' (by have := hlim.2.2; omega) hd)
 rw [hSL, hbk] at HU2
 have HFIT := Lib.hid hfit
 have HMAY := Lib.hid hmay
 have HLIM := Lib.hid hlim
 have HS := Lib.hid hSS
 clear hmay hfit hlim hbk hSS hSL hsz
 have H1 := Lib.hid (Fx.nil w)
 have H2 := Lib.hid (H1.out.base (hb))
 clear H1
 clear hb hd hv hsl hs
 go_enter Try.func9, Try.ntmps9
 go_wp2_with fail
 refine (first10 w).mono ?_; rintro e w1 ⟨rfl, hb⟩
 have H3 := Lib.hid (H2.out.below hb)
 clear hb H2
 go_wp2_with fail
 obtain ⟨U, hU⟩ : ∃ U : ByteArray, (⟨u.toArray⟩ : ByteArray) = U := ⟨_, rfl⟩
 have HUN := Lib.hid hU
 clear hU
 refine (HU.out w1).mono ?_; rintro e w2 ⟨hb, cs, rfl, lo1, lc1, rfl, hk1⟩
 clear HU
 dsimp only [strV]
 rw [HUN.out]
 have H4 := Lib.hid (H3.out.below hb)
 clear hb H3
 have H5 := Lib.hid (H4.out.krels (hk1))
 clear H4
 clear hk1
 go_upto_region 8 with fail
 obtain ⟨blr1, hbl⟩ : ∃ b, w2.heap.size = b := ⟨_, rfl⟩
 obtain ⟨W3, hW⟩ : ∃ W, w2.alloc (.cells #[.slice lo1 l.length lc1, .int .u32 (n : Int), .string U] 40) = W := ⟨_, rfl⟩
 have hb : Below w2.heap.size w2 W3 := by rw [← hW]; exact below_new _ _
 have hr : W3.heap[blr1]? = some (.cells #[.slice lo1 l.length lc1, .int .u32 (n : Int), .string U] 40 (0, 0)) := by rw [← hW, ← hbl]; exact new_row _ _ _
 rw [hW, hbl]
 clear hW hbl
 have H6 := Lib.hid (H5.out.below hb)
 clear hb H5
 have H7 := Lib.hid (H6.out.row (hr))
 clear H6
 clear hr
 obtain ⟨xa0, xa1, xa2⟩ := row3 (H7.out.is.1)
 go_wp2_with fail
 refine (rs_marshal ((l, n), u) [.slice lo1 l.length lc1, .int .u32 (n : Int), .string U] _ d W3 HFIT.out ⟨lo1, lc1, by rw [← HUN.out]; rfl, H7.out.is.2.1⟩ HD.out).mono ?_; rintro e w4 ⟨hb, hcase⟩
 rw [HMAY.out, if_pos rfl] at hcase
 subst hcase
 rw [HS.out]
 clear xa0 xa1 xa2
 have H8 := Lib.hid (H7.out.below hb)
 clear hb H7
 go_wp2_with fail
 refine (HU2.out w4).mono ?_; rintro e w5 ⟨hb, cs, rfl, lo2, lc2, rfl, hk2⟩
 clear HU2
 dsimp only [strV]
 rw [HUN.out]
 have H9 := Lib.hid (H8.out.below hb)
 clear hb H8
 have H10 := Lib.hid (H9.out.krels (hk2))
 clear H9
 clear hk2
 go_upto_region 10 with fail
 obtain ⟨blr2, hbl⟩ : ∃ b, w5.heap.size = b := ⟨_, rfl⟩
 obtain ⟨W6, hW⟩ : ∃ W, w5.alloc (.cells #[.slice lo2 l.length lc2, .int .u32 (n : Int), .string U] 40) = W := ⟨_, rfl⟩
 have hb : Below w5.heap.size w5 W6 := by rw [← hW]; exact below_new _ _
 have hr : W6.heap[blr2]? = some (.cells #[.slice lo2 l.length lc2, .int .u32 (n : Int), .string U] 40 (0, 0)) := by rw [← hW, ← hbl]; exact new_row _ _ _
 rw [hW, hbl]
 clear hW hbl
 have H11 := Lib.hid (H10.out.below hb)
 clear hb H10
 have H12 := Lib.hid (H11.out.row (hr))
 clear H11
 clear hr
 obtain ⟨xb0, xb1, xb2⟩ := row3 (H12.out.is.1)
 go_wp2_with fail
 refine (rs_marshal ((l, n), u) [.slice lo2 l.length lc2, .int .u32 (n : Int), .string U] _ d W6 HFIT.out ⟨lo2, lc2, by rw [← HUN.out]; rfl, H12.out.is.2.1⟩ HD.out).mono ?_; rintro e w7 ⟨hb, hcase⟩
 rw [HMAY.out, if_pos rfl] at hcase
 subst hcase
 rw [HS.out]
 clear xb0 xb1 xb2
 have H13 := Lib.hid (H12.out.below hb)
 clear hb H12
 go_wp2_with fail
 refine (first10 w7).mono ?_; rintro e w8 ⟨rfl, hb⟩
 have H14 := Lib.hid (H13.out.below hb)
 clear hb H13
 obtain ⟨xa0, xa1, xa2⟩ := row3 (H14.out.is.2.2.1)
 go_wp2_with fail
 refine (rs_mayc ((l, n), u) [.slice lo1 l.length lc1, .int .u32 (n : Int), .string U] _ d w8 HFIT.out ⟨lo1, lc1, by rw [← HUN.out]; rfl, H14.out.is.2.2.2.1⟩ HD.out).mono ?_; rintro e w9 ⟨rfl, hb⟩
 rw [HMAY.out]
 clear xa0 xa1 xa2
 have H15 := Lib.hid (H14.out.below hb)
 clear hb H14
 obtain ⟨xa0, xa1, xa2⟩ := row3 (H15.out.is.2.2.1)
 obtain ⟨xb0, xb1, xb2⟩ := row3 (H15.out.is.1)
 go_wp2_with fail
 refine (rs_same ((l, n), u) ((l, n), u) [.slice lo1 l.length lc1, .int .u32 (n : Int), .string U] [.slice lo2 l.length lc2, .int .u32 (n : Int), .string U] _ _ w9 HLIM.out.1 HLIM.out.2.1 ⟨lo1, lc1, by rw [← HUN.out]; rfl, H15.out.is.2.2.2.1⟩ ⟨lo2, lc2, by rw [← HUN.out]; rfl, H15.out.is.2.1⟩).mono ?_; rintro e w10 ⟨rfl, hb⟩
 rw [alike_yes rfl]
 clear xa0 xa1 xa2 xb0 xb1 xb2
 have H16 := Lib.hid (H15.out.below hb)
 clear hb H15
 go_wp2_with fail
 go_ret
 exact ⟨rfl, H16.out.is.2.2.2.2.1⟩
set_option maxRecDepth 1000000 in
set_option maxHeartbeats 16000000 in
theorem rstw_any (s : ByteArray) (d : Int) (w : World) (hd : -9223372036854775808 ≤ d ∧ d ≤ 9223372036854775807) :
 Calls Try.prog 9 #[.string s, .int .i64 d] w fun e w' => e = .returned (.bool true) ∧ Below w.heap.size w w' := by
 by_cases hs : s.size ≤ 6000
 ·cases hv : rsrd s.data.toList d with
  | error c => exact rstw_no s d w hs hd hv
  | ok x => exact rstw_ok s d w hs hd hv
 ·have q0 : decide ((6000 : Int) < (s.size : Int)) = true := decide_eq_true (by omega)
  clear hs hd
  go_enter Try.func9, Try.ntmps9
  go_wp2_with fail
  refine (first10 w).mono ?_; rintro e w1 ⟨rfl, hb⟩
  have HB := Lib.hid hb
  clear hb
  go_wp2_with fail
  refine (first10 w1).mono ?_; rintro e w2 ⟨rfl, hb⟩
  have HB2 := Lib.hid (below_step HB.out hb)
  clear hb
  go_wp2_with fail
  go_ret
  exact ⟨rfl, HB2.out⟩
set_option maxRecDepth 1000000 in
set_option maxHeartbeats 8000000 in
theorem sc_mayc (x : (List UInt8 × List UInt8 × List KV × Nat) × List UInt8) (cs : List Value) (Q : Nat → Prop) (d : Int) (w : World) (hf : sc_fit x) (hr : ScRel w Q x cs) (hd : -9223372036854775808 ≤ d ∧ d ≤ 9223372036854775807) :
 Calls Try.prog 19 #[.agg cs.toArray, .int .i64 d] w fun e w' => e = .returned (.bool (sc_may d x)) ∧ Below w.heap.size w w' := by
 have HM := Lib.hid (fun w' (hb : Below w.heap.size w w') => sc_marshal x cs Q d w' hf (scCel.upd (Upd.of_new (S := fun _ => False) hb) (fun _ _ h => h) (fun _ h => h) hr) hd)
 obtain ⟨lo1, lc1, rfl, _⟩ := hr
 obtain ⟨⟨a, b, l, n⟩, u⟩ := x
 obtain ⟨g, hg⟩ : ∃ g, sc_may d (((a, b, l, n), u)) = g := ⟨_, rfl⟩
 rw [hg] at HM ⊢
 dsimp only [strV] at HM ⊢
 obtain ⟨U, hU⟩ : ∃ U : ByteArray, (⟨u.toArray⟩ : ByteArray) = U := ⟨_, rfl⟩
 obtain ⟨A, hA⟩ : ∃ U : ByteArray, (⟨a.toArray⟩ : ByteArray) = U := ⟨_, rfl⟩
 obtain ⟨B, hB⟩ : ∃ U : ByteArray, (⟨b.toArray⟩ : ByteArray) = U := ⟨_, rfl⟩
 rw [hU, hA, hB] at HM ⊢
 clear hU hA hB
 obtain ⟨W, hW⟩ : ∃ W, w.alloc (.cells #[.string A, .string B, .slice lo1 l.length lc1, .int .u32 (n : Int), .string U] 25) = W := ⟨_, rfl⟩
 have HB0 : Hid (Below w.heap.size w W) := Lib.hid (by rw [← hW]; exact below_new _ _)
 have HW := Lib.hid hW
 clear hW hf hg hd
 go_enter Try.func19, Try.ntmps19
 go_wp2_with fail
 rw [HW.out]
 refine (HM.out W HB0.out).mono ?_; rintro e w1 ⟨hb, hcase⟩
 have HB1 := Lib.hid (below_step HB0.out hb)
 clear hb
 cases g with
 | true =>
  rw [if_pos rfl] at hcase
  subst hcase
  go_wp2_with fail
  go_ret
  exact ⟨rfl, HB1.out⟩
 | false =>
  rw [if_neg (by simp)] at hcase
  obtain ⟨v, rfl, hec⟩ := hcase
  obtain ⟨T', y, rfl⟩ := hec.iface
  clear hec
  go_wp2_with fail
  go_ret
  exact ⟨rfl, HB1.out⟩
set_option maxRecDepth 1000000 in
set_option maxHeartbeats 16000000 in
theorem sctw_no (s : ByteArray) (d : Int) (w : World) (hs : s.size ≤ 6000) (hd : -9223372036854775808 ≤ d ∧ d ≤ 9223372036854775807) {c : Nat} (hv : scrd s.data.toList d = .error c) :
 Calls Try.prog 5 #[.string s, .int .i64 d] w fun e w' => e = .returned (.bool true) ∧ Below w.heap.size w w' := by
 have HD := Lib.hid hd
 have hsl : s.data.toList.length = s.size := by simp
 have HU := Lib.hid (fun w' => unsc_any (Lib.hid ukey_any) s d w' (by omega) hd)
 rw [hv] at HU
 have q0 : decide ((6000 : Int) < (s.size : Int)) = false := decide_eq_false (by omega)
 have hb : Below w.heap.size w w := Below.refl _ _
 have H1 := Lib.hid (Fx.nil w)
 have H2 := Lib.hid (H1.out.base (hb))
 clear H1
 clear hb hd hv hsl hs
 go_enter Try.func5, Try.ntmps5
 go_wp2_with fail
 refine (first10 w).mono ?_; rintro e w1 ⟨rfl, hb⟩
 have H3 := Lib.hid (H2.out.below hb)
 clear hb H2
 go_wp2_with fail
 refine (HU.out w1).mono ?_; rintro e w2 ⟨hb, v4, q4, rfl, _, hew⟩
 obtain ⟨T4, y4, rfl⟩ := hew.iface
 clear hew HU
 unfold sczero
 have H4 := Lib.hid (H3.out.below hb)
 clear hb H3
 go_wp2_with fail
 obtain ⟨blr2, hbl⟩ : ∃ b, w2.heap.size = b := ⟨_, rfl⟩
 obtain ⟨W3, hW⟩ : ∃ W, w2.alloc (.cells #[.string ⟨#[]⟩, .string ⟨#[]⟩, .slice none 0 0, .int .u32 0, .string ⟨#[]⟩] 25) = W := ⟨_, rfl⟩
 have hb : Below w2.heap.size w2 W3 := by rw [← hW]; exact below_new _ _
 have hr : W3.heap[blr2]? = some (.cells #[.string ⟨#[]⟩, .string ⟨#[]⟩, .slice none 0 0, .int .u32 0, .string ⟨#[]⟩] 25 (0, 0)) := by rw [← hW, ← hbl]; exact new_row _ _ _
 rw [hW, hbl]
 clear hW hbl
 have H5 := Lib.hid (H4.out.below hb)
 clear hb H4
 have H6 := Lib.hid (H5.out.row (hr))
 clear H5
 clear hr
 refine (first10 W3).mono ?_; rintro e w4 ⟨rfl, hb⟩
 have H7 := Lib.hid (H6.out.below hb)
 clear hb H6
 obtain ⟨xa0, xa1, xa2, xa3, xa4⟩ := row5 (H7.out.is.1)
 go_wp2_with fail
 refine (sc_same (([], [], [], 0), []) (([], [], [], 0), []) [.string ⟨#[]⟩, .string ⟨#[]⟩, .slice none 0 0, .int .u32 0, .string ⟨#[]⟩] [.string ⟨#[]⟩, .string ⟨#[]⟩, .slice none 0 0, .int .u32 0, .string ⟨#[]⟩] (fun _ => True) (fun _ => True) w4 (by rw [kslim]; trivial) (by simp) ⟨none, 0, rfl, by rw [KRels]; trivial⟩ ⟨none, 0, rfl, by rw [KRels]; trivial⟩).mono ?_; rintro e w5 ⟨rfl, hb⟩
 rw [alike_yes rfl]
 clear xa0 xa1 xa2 xa3 xa4
 have H8 := Lib.hid (H7.out.below hb)
 clear hb H7
 go_wp2_with fail
 go_ret
 exact ⟨rfl, H8.out.is.2.1⟩
set_option maxRecDepth 1000000 in
set_option maxHeartbeats 16000000 in
theorem sctw_ok (s : ByteArray) (d : Int) (w : World) (hs : s.size ≤ 6000) (hd : -9223372036854775808 ≤ d ∧ d ≤ 9223372036854775807) {x : (List UInt8 × List UInt8 × List KV × Nat) × List UInt8} (hv : scrd s.data.toList d = .ok x) :
 Calls Try.prog 5 #[.string s, .int .i64 d] w fun e w' => e = .returned (.bool true) ∧ Below w.heap.size w w' := by
 have HD := Lib.hid hd
 have hsl : s.data.toList.length = s.size := by simp
 have HU := Lib.hid (fun w' => unsc_any (Lib.hid ukey_any) s d w' (by omega) hd)
 rw [hv] at HU
 have q0 : decide ((6000 : Int) < (s.size : Int)) = false := decide_eq_false (by omega)
 have hb : Below w.heap.size w w := Below.refl _ _
 obtain ⟨⟨a, b, l, n⟩, u⟩ := x
 obtain ⟨hmay, hfit⟩ := sc_twice (by omega) hv
 have hlim := sc_lim hfit
 have hbk := sc_back hfit hmay
 obtain ⟨SS, hSS⟩ : ∃ S : ByteArray, (⟨(sc_out (((a, b, l, n), u))).toArray⟩ : ByteArray) = S := ⟨_, rfl⟩
 have hSL : SS.data.toList = sc_out (((a, b, l, n), u)) := by rw [← hSS]
 have hsz : SS.size = (sc_out (((a, b, l, n), u))).length := by rw [← hSS]; simp [ByteArray.size]
 have HU2 := Lib.hid (fun w' => unsc_any (Lib.hid ukey_any) SS d w' (by have := hlim.2.2; omega) hd)
 rw [hSL, hbk] at HU2
 have HFIT := Lib.hid hfit
 have HMAY := Lib.hid hmay
 have HLIM := Lib.hid hlim
 have HS := Lib.hid hSS
 clear hmay hfit hlim hbk hSS hSL hsz
 have H1 := Lib.hid (Fx.nil w)
 have H2 := Lib.hid (H1.out.base (hb))
 clear H1
 clear hb hd hv hsl hs
 go_enter Try.func5, Try.ntmps5
 go_wp2_with fail
 refine (first10 w).mono ?_; rintro e w1 ⟨rfl, hb⟩
 have H3 := Lib.hid (H2.out.below hb)
 clear hb H2
 go_wp2_with fail
 obtain ⟨U, hU⟩ : ∃ U : ByteArray, (⟨u.toArray⟩ : ByteArray) = U := ⟨_, rfl⟩
 obtain ⟨A, hA⟩ : ∃ U : ByteArray, (⟨a.toArray⟩ : ByteArray) = U := ⟨_, rfl⟩
 obtain ⟨B, hB⟩ : ∃ U : ByteArray, (⟨b.toArray⟩ : ByteArray) = U := ⟨_, rfl⟩
 have HUN := Lib.hid hU
 have HAN := Lib.hid hA
 have HBN := Lib.hid hB
 clear hU hA hB
 refine (HU.out w1).mono ?_; rintro e w2 ⟨hb, cs, rfl, lo1, lc1, rfl, hk1⟩
 clear HU
 dsimp only [strV]
 rw [HUN.out, HAN.out, HBN.out]
 have H4 := Lib.hid (H3.out.below hb)
 clear hb H3
 have H5 := Lib.hid (H4.out.krels (hk1))
 clear H4
 clear hk1
 go_upto_region 8 with fail
 obtain ⟨blr1, hbl⟩ : ∃ b, w2.heap.size = b := ⟨_, rfl⟩
 obtain ⟨W3, hW⟩ : ∃ W, w2.alloc (.cells #[.string A, .string B, .slice lo1 l.length lc1, .int .u32 (n : Int), .string U] 25) = W := ⟨_, rfl⟩
 have hb : Below w2.heap.size w2 W3 := by rw [← hW]; exact below_new _ _
 have hr : W3.heap[blr1]? = some (.cells #[.string A, .string B, .slice lo1 l.length lc1, .int .u32 (n : Int), .string U] 25 (0, 0)) := by rw [← hW, ← hbl]; exact new_row _ _ _
 rw [hW, hbl]
 clear hW hbl
 have H6 := Lib.hid (H5.out.below hb)
 clear hb H5
 have H7 := Lib.hid (H6.out.row (hr))
 clear H6
 clear hr
 obtain ⟨xa0, xa1, xa2, xa3, xa4⟩ := row5 (H7.out.is.1)
 go_wp2_with fail
 refine (sc_marshal ((a, b, l, n), u) [.string A, .string B, .slice lo1 l.length lc1, .int .u32 (n : Int), .string U] _ d W3 HFIT.out ⟨lo1, lc1, by rw [← HUN.out, ← HAN.out, ← HBN.out]; rfl, H7.out.is.2.1⟩ HD.out).mono ?_; rintro e w4 ⟨hb, hcase⟩
 rw [HMAY.out, if_pos rfl] at hcase
 subst hcase
 rw [HS.out]
 clear xa0 xa1 xa2 xa3 xa4
 have H8 := Lib.hid (H7.out.below hb)
 clear hb H7
 go_wp2_with fail
 refine (HU2.out w4).mono ?_; rintro e w5 ⟨hb, cs, rfl, lo2, lc2, rfl, hk2⟩
 clear HU2
 dsimp only [strV]
 rw [HUN.out, HAN.out, HBN.out]
 have H9 := Lib.hid (H8.out.below hb)
 clear hb H8
 have H10 := Lib.hid (H9.out.krels (hk2))
 clear H9
 clear hk2
 go_upto_region 10 with fail
 obtain ⟨blr2, hbl⟩ : ∃ b, w5.heap.size = b := ⟨_, rfl⟩
 obtain ⟨W6, hW⟩ : ∃ W, w5.alloc (.cells #[.string A, .string B, .slice lo2 l.length lc2, .int .u32 (n : Int), .string U] 25) = W := ⟨_, rfl⟩
 have hb : Below w5.heap.size w5 W6 := by rw [← hW]; exact below_new _ _
 have hr : W6.heap[blr2]? = some (.cells #[.string A, .string B, .slice lo2 l.length lc2, .int .u32 (n : Int), .string U] 25 (0, 0)) := by rw [← hW, ← hbl]; exact new_row _ _ _
 rw [hW, hbl]
 clear hW hbl
 have H11 := Lib.hid (H10.out.below hb)
 clear hb H10
 have H12 := Lib.hid (H11.out.row (hr))
 clear H11
 clear hr
 obtain ⟨xb0, xb1, xb2, xb3, xb4⟩ := row5 (H12.out.is.1)
 go_wp2_with fail
 refine (sc_marshal ((a, b, l, n), u) [.string A, .string B, .slice lo2 l.length lc2, .int .u32 (n : Int), .string U] _ d W6 HFIT.out ⟨lo2, lc2, by rw [← HUN.out, ← HAN.out, ← HBN.out]; rfl, H12.out.is.2.1⟩ HD.out).mono ?_; rintro e w7 ⟨hb, hcase⟩
 rw [HMAY.out, if_pos rfl] at hcase
 subst hcase
 rw [HS.out]
 clear xb0 xb1 xb2 xb3 xb4
 have H13 := Lib.hid (H12.out.below hb)
 clear hb H12
 go_wp2_with fail
 refine (first10 w7).mono ?_; rintro e w8 ⟨rfl, hb⟩
 have H14 := Lib.hid (H13.out.below hb)
 clear hb H13
 obtain ⟨xa0, xa1, xa2, xa3, xa4⟩ := row5 (H14.out.is.2.2.1)
 go_wp2_with fail
 refine (sc_mayc ((a, b, l, n), u) [.string A, .string B, .slice lo1 l.length lc1, .int .u32 (n : Int), .string U] _ d w8 HFIT.out ⟨lo1, lc1, by rw [← HUN.out, ← HAN.out, ← HBN.out]; rfl, H14.out.is.2.2.2.1⟩ HD.out).mono ?_; rintro e w9 ⟨rfl, hb⟩
 rw [HMAY.out]
 clear xa0 xa1 xa2 xa3 xa4
 have H15 := Lib.hid (H14.out.below hb)
 clear hb H14
 obtain ⟨xa0, xa1, xa2, xa3, xa4⟩ := row5 (H15.out.is.2.2.1)
 obtain ⟨xb0, xb1, xb2, xb3, xb4⟩ := row5 (H15.out.is.1)
 go_wp2_with fail
 refine (sc_same ((a, b, l, n), u) ((a, b, l, n), u) [.string A, .string B, .slice lo1 l.length lc1, .int .u32 (n : Int), .string U] [.string A, .string B, .slice lo2 l.length lc2, .int .u32 (n : Int), .string U] _ _ w9 HLIM.out.1 HLIM.out.2.1 ⟨lo1, lc1, by rw [← HUN.out, ← HAN.out, ← HBN.out]; rfl, H15.out.is.2.2.2.1⟩ ⟨lo2, lc2, by rw [← HUN.out, ← HAN.out, ← HBN.out]; rfl, H15.out.is.2.1⟩).mono ?_; rintro e w10 ⟨rfl, hb⟩
 rw [alike_yes rfl]
 clear xa0 xa1 xa2 xa3 xa4 xb0 xb1 xb2 xb3 xb4
 have H16 := Lib.hid (H15.out.below hb)
 clear hb H15
 go_wp2_with fail
 go_ret
 exact ⟨rfl, H16.out.is.2.2.2.2.1⟩
set_option maxRecDepth 1000000 in
set_option maxHeartbeats 16000000 in
theorem sctw_any (s : ByteArray) (d : Int) (w : World) (hd : -9223372036854775808 ≤ d ∧ d ≤ 9223372036854775807) :
 Calls Try.prog 5 #[.string s, .int .i64 d] w fun e w' => e = .returned (.bool true) ∧ Below w.heap.size w w' := by
 by_cases hs : s.size ≤ 6000
 ·cases hv : scrd s.data.toList d with
  | error c => exact sctw_no s d w hs hd hv
  | ok x => exact sctw_ok s d w hs hd hv
 ·have q0 : decide ((6000 : Int) < (s.size : Int)) = true := decide_eq_true (by omega)
  clear hs hd
  go_enter Try.func5, Try.ntmps5
  go_wp2_with fail
  refine (first10 w).mono ?_; rintro e w1 ⟨rfl, hb⟩
  have HB := Lib.hid hb
  clear hb
  go_wp2_with fail
  refine (first10 w1).mono ?_; rintro e w2 ⟨rfl, hb⟩
  have HB2 := Lib.hid (below_step HB.out hb)
  clear hb
  go_wp2_with fail
  go_ret
  exact ⟨rfl, HB2.out⟩
end Go.Proofs.Ytbdbmkmebeemoaa
