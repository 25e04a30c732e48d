/-
  hyglaw10.ScopeOthers: for every input the law returns true, and the input stays as it was.
-/
import Derived.Test.YtbdbmkmebeemoaaScSame
import Derived.Test.YtbdbmkmebeemoaaOth
import Derived.Test.YtbdbmkmebeemoaaRow
namespace Go.Proofs.Ytbdbmkmebeemoaa
open Go.RowKit

mutual
theorem vlim_of : ∀ (x : Val), vw x ≤ 9223372036854775807 → vlim x
  | .mk k s b n l m i u, h => by
    rw [vw] at h
    rw [vlim]
    have h1 := vsw_len l
    have h2 := ksw_len m
    exact ⟨by omega, by omega, vslim_ofw l (by omega), kslim_ofw m (by omega)⟩
theorem klim_of : ∀ (x : KV), kw x ≤ 9223372036854775807 → klim x
  | .mk key has v u, h => by
    rw [kw] at h
    rw [klim]
    exact vlim_of v (by omega)
theorem vslim_ofw : ∀ (l : List Val), vsw l ≤ 9223372036854775807 → vslim l
  | [], _ => by rw [vslim]; trivial
  | x :: l, h => by
    rw [vsw] at h
    rw [vslim]
    exact ⟨vlim_of x (by omega), vslim_ofw l (by omega)⟩
theorem kslim_ofw : ∀ (l : List KV), ksw l ≤ 9223372036854775807 → kslim l
  | [], _ => by rw [kslim]; trivial
  | x :: l, h => by
    rw [ksw] at h
    rw [kslim]
    exact ⟨klim_of x (by omega), kslim_ofw l (by omega)⟩
end
theorem rN_len20 (num n : Nat) : (rN num n).raw.length ≤ 20 := by
  show (vput (8 * num + 0) ++ vput n).length ≤ 20
  rw [List.length_append]
  have := vput_le10 (8 * num + 0)
  have := vput_le10 n
  omega
theorem rs_lim {x : (List KV × Nat) × List UInt8} (h : rs_fit x) : kslim x.1.1 ∧ x.1.1.length ≤ 9223372036854775807 ∧ (rs_out x).length ≤ 500000 := by
  obtain ⟨⟨l, n⟩, u⟩ := x
  obtain ⟨_, _, h3⟩ := h
  dsimp only at h3
  have h1 := ksw_len l
  refine ⟨kslim_ofw l (by omega), by show l.length ≤ _; omega, ?_⟩
  show (kouts 1 l ++ (if n = 0 then [] else (rN 2 n).raw) ++ u).length ≤ _
  have h4 := kouts_le 1 (by omega) l
  have h5 := rN_len20 2 n
  rw [List.length_append, List.length_append]
  split
  · simp; omega
  · omega
theorem sc_lim {x : (List UInt8 × List UInt8 × List KV × Nat) × List UInt8} (h : sc_fit x) : kslim x.1.2.2.1 ∧ x.1.2.2.1.length ≤ 9223372036854775807 ∧ (sc_out x).length ≤ 500000 := by
  obtain ⟨⟨a, b, l, n⟩, u⟩ := x
  obtain ⟨_, _, h3⟩ := h
  dsimp only at h3
  have h1 := ksw_len l
  refine ⟨kslim_ofw l (by omega), by show l.length ≤ _; omega, ?_⟩
  show ((if a = [] then [] else (rB 1 a).raw) ++ (if b = [] then [] else (rB 2 b).raw) ++ kouts 3 l ++ (if n = 0 then [] else (rN 4 n).raw) ++ u).length ≤ _
  have h4 := kouts_le 3 (by omega) l
  have h5 := rN_len20 4 n
  have h6 := rB_len20 1 a
  have h7 := rB_len20 2 b
  simp only [List.length_append]
  have e1 : (if a = [] then [] else (rB 1 a).raw).length ≤ 20 + a.length := by
    split
    · simp
    · omega
  have e2 : (if b = [] then [] else (rB 2 b).raw).length ≤ 20 + b.length := by
    split
    · simp
    · omega
  have e3 : (if n = 0 then [] else (rN 4 n).raw).length ≤ 20 := by
    split
    · simp
    · omega
  omega
set_option maxRecDepth 1000000 in
set_option maxHeartbeats 8000000 in
theorem rs_mayc (x : (List KV × Nat) × List UInt8) (cs : List Value) (Q : Nat → Prop) (d : Int) (w : World) (hf : rs_fit x) (hr : RsRel w Q x cs) (hd : -9223372036854775808 ≤ d ∧ d ≤ 9223372036854775807) :
 Calls Try.prog 25 #[.agg cs.toArray, .int .i64 d] w fun e w' => e = .returned (.bool (rs_may d x)) ∧ Below w.heap.size w w' := by
 have HM := Lib.hid (fun w' (hb : Below w.heap.size w w') => rs_marshal x cs Q d w' hf (rsCel.upd (Upd.of_new (S := fun _ => False) hb) (fun _ _ h => h) (fun _ h => h) hr) hd)
 obtain ⟨lo1, lc1, rfl, _⟩ := hr
 obtain ⟨⟨l, n⟩, u⟩ := x
 obtain ⟨g, hg⟩ : ∃ g, rs_may d (((l, n), u)) = g := ⟨_, rfl⟩
 rw [hg] at HM ⊢
 dsimp only [strV] at HM ⊢
 obtain ⟨U, hU⟩ : ∃ U : ByteArray, (⟨u.toArray⟩ : ByteArray) = U := ⟨_, rfl⟩
 rw [hU] at HM ⊢
 clear hU
 obtain ⟨W, hW⟩ : ∃ W, w.alloc (.cells #[.slice lo1 l.length lc1, .int .u32 (n : Int), .string U] 40) = W := ⟨_, rfl⟩
 have HB0 : Hid (Below w.heap.size w W) := Lib.hid (by rw [← hW]; exact below_new _ _)
 have HW := Lib.hid hW
 clear hW hf hg hd
 go_enter Try.func25, Try.ntmps25
 go_wp2_with fail
 rw [HW.out]
 refine (HM.out W HB0.out).mono ?_; rintro e w1 ⟨hb, hcase⟩
 have HB1 := Lib.hid (below_step HB0.out hb)
 clear hb
 cases g with
 | true =>
  rw [if_pos rfl] at hcase
  subst hcase
  go_wp2_with fail
  go_ret
  exact ⟨rfl, HB1.out⟩
 | false =>
  rw [if_neg (by simp)] at hcase
  obtain ⟨v, rfl, hec⟩ := hcase
  obtain ⟨T', y, rfl⟩ := hec.iface
  clear hec
  go_wp2_with fail
  go_ret
  exact ⟨rfl, HB1.out⟩
set_option maxRecDepth 1000000 in
set_option maxHeartbeats 8000000 in
theorem sc_mayc (x : (List UInt8 × List UInt8 × List KV × Nat) × List UInt8) (cs : List Value) (Q : Nat → Prop) (d : Int) (w : World) (hf : sc_fit x) (hr : ScRel w Q x cs) (hd : -9223372036854775808 ≤ d ∧ d ≤ 9223372036854775807) :
 Calls Try.prog 19 #[.agg cs.toArray, .int .i64 d] w fun e w' => e = .returned (.bool (sc_may d x)) ∧ Below w.heap.size w w' := by
 have HM := Lib.hid (fun w' (hb : Below w.heap.size w w') => sc_marshal x cs Q d w' hf (scCel.upd (Upd.of_new (S := fun _ => False) hb) (fun _ _ h => h) (fun _ h => h) hr) hd)
 obtain ⟨lo1, lc1, rfl, _⟩ := hr
 obtain ⟨⟨a, b, l, n⟩, u⟩ := x
 obtain ⟨g, hg⟩ : ∃ g, sc_may d (((a, b, l, n), u)) = g := ⟨_, rfl⟩
 rw [hg] at HM ⊢
 dsimp only [strV] at HM ⊢
 obtain ⟨U, hU⟩ : ∃ U : ByteArray, (⟨u.toArray⟩ : ByteArray) = U := ⟨_, rfl⟩
 obtain ⟨A, hA⟩ : ∃ U : ByteArray, (⟨a.toArray⟩ : ByteArray) = U := ⟨_, rfl⟩
 obtain ⟨B, hB⟩ : ∃ U : ByteArray, (⟨b.toArray⟩ : ByteArray) = U := ⟨_, rfl⟩
 rw [hU, hA, hB] at HM ⊢
 clear hU hA hB
 obtain ⟨W, hW⟩ : ∃ W, w.alloc (.cells #[.string A, .string B, .slice lo1 l.length lc1, .int .u32 (n : Int), .string U] 25) = W := ⟨_, rfl⟩
 have HB0 : Hid (Below w.heap.size w W) := Lib.hid (by rw [← hW]; exact below_new _ _)
 have HW := Lib.hid hW
 clear hW hf hg hd
 go_enter Try.func19, Try.ntmps19
 go_wp2_with fail
 rw [HW.out]
 refine (HM.out W HB0.out).mono ?_; rintro e w1 ⟨hb, hcase⟩
 have HB1 := Lib.hid (below_step HB0.out hb)
 clear hb
 cases g with
 | true =>
  rw [if_pos rfl] at hcase
  subst hcase
  go_wp2_with fail
  go_ret
  exact ⟨rfl, HB1.out⟩
 | false =>
  rw [if_neg (by simp)] at hcase
  obtain ⟨v, rfl, hec⟩ := hcase
  obtain ⟨T', y, rfl⟩ := hec.iface
  clear hec
  go_wp2_with fail
  go_ret
  exact ⟨rfl, HB1.out⟩
end Go.Proofs.Ytbdbmkmebeemoaa
namespace Go.Proofs.Ytbdbmkmebeemoaa
open Go.RowKit

theorem rs_tko (r : Rec) (h : r.ty = 5 ∨ r.num = 536870911) : rsF.tk r = false := by
  rcases h with h | h <;> simp [rsF, Fld.and, listF, listTk, var32F, h]
theorem sc_tko (r : Rec) (h : r.ty = 5 ∨ r.num = 536870911) : scF.tk r = false := by
  rcases h with h | h <;> simp [scF, Fld.and, listF, listTk, var32F, textF, h]
set_option maxRecDepth 1000000 in
set_option maxHeartbeats 16000000 in
theorem scoth_long1 (s : ByteArray) (d : Int) (w : World) (k v : Int) (h1 : 6000 < s.size) :
 Calls Try.prog 11 #[.string s, .int .i64 d, .int .i64 k, .int .u64 v] w fun e w' => e = .returned (.bool true) ∧ Below w.heap.size w w' := by
 have q0 : decide ((s.size : Int) > 6000) = true := decide_eq_true (by omega)
 clear h1
 have H1 := Lib.hid (Fx.nil w)
 have hb : Below w.heap.size w w := Below.refl _ _
 have H2 := Lib.hid (H1.out.base (hb))
 clear H1
 clear hb
 go_enter Try.func11, Try.ntmps11
 go_wp2_with fail
 refine (first10 w).mono ?_; rintro e w1 ⟨rfl, hb⟩
 have H3 := Lib.hid (H2.out.below hb)
 clear hb H2
 go_wp2_with fail
 refine (first10 w1).mono ?_; rintro e w2 ⟨rfl, hb⟩
 have H4 := Lib.hid (H3.out.below hb)
 clear hb H3
 go_wp2_with fail
 go_ret
 exact ⟨rfl, H4.out.is.1⟩
set_option maxRecDepth 1000000 in
set_option maxHeartbeats 16000000 in
theorem scoth_long2 (s : ByteArray) (d : Int) (w : World) (k v : Int) (h1 : ¬ 6000 < s.size) (h2 : k < 1) :
 Calls Try.prog 11 #[.string s, .int .i64 d, .int .i64 k, .int .u64 v] w fun e w' => e = .returned (.bool true) ∧ Below w.heap.size w w' := by
 have q0 : decide ((s.size : Int) > 6000) = false := decide_eq_false (by omega)
 have q1 : decide (k < 1) = true := decide_eq_true h2
 clear h1 h2
 have H1 := Lib.hid (Fx.nil w)
 have hb : Below w.heap.size w w := Below.refl _ _
 have H2 := Lib.hid (H1.out.base (hb))
 clear H1
 clear hb
 go_enter Try.func11, Try.ntmps11
 go_wp2_with fail
 refine (first10 w).mono ?_; rintro e w1 ⟨rfl, hb⟩
 have H3 := Lib.hid (H2.out.below hb)
 clear hb H2
 go_wp2_with fail
 refine (first10 w1).mono ?_; rintro e w2 ⟨rfl, hb⟩
 have H4 := Lib.hid (H3.out.below hb)
 clear hb H3
 go_wp2_with fail
 go_ret
 exact ⟨rfl, H4.out.is.1⟩
set_option maxRecDepth 1000000 in
set_option maxHeartbeats 16000000 in
theorem scoth_long3 (s : ByteArray) (d : Int) (w : World) (k v : Int) (h1 : ¬ 6000 < s.size) (h2 : ¬ k < 1) (h3 : 536870912 ≤ k) :
 Calls Try.prog 11 #[.string s, .int .i64 d, .int .i64 k, .int .u64 v] w fun e w' => e = .returned (.bool true) ∧ Below w.heap.size w w' := by
 have q0 : decide ((s.size : Int) > 6000) = false := decide_eq_false (by omega)
 have q1 : decide (k < 1) = false := decide_eq_false h2
 have q2 : decide (k ≥ 536870912) = true := decide_eq_true (by omega)
 clear h1 h2 h3
 have H1 := Lib.hid (Fx.nil w)
 have hb : Below w.heap.size w w := Below.refl _ _
 have H2 := Lib.hid (H1.out.base (hb))
 clear H1
 clear hb
 go_enter Try.func11, Try.ntmps11
 go_wp2_with fail
 refine (first10 w).mono ?_; rintro e w1 ⟨rfl, hb⟩
 have H3 := Lib.hid (H2.out.below hb)
 clear hb H2
 go_wp2_with fail
 refine (first10 w1).mono ?_; rintro e w2 ⟨rfl, hb⟩
 have H4 := Lib.hid (H3.out.below hb)
 clear hb H3
 go_wp2_with fail
 go_ret
 exact ⟨rfl, H4.out.is.1⟩
set_option maxRecDepth 1000000 in
set_option maxHeartbeats 16000000 in
theorem scoth_A (s : ByteArray) (d : Int) (w : World) (hd : -9223372036854775808 ≤ d ∧ d ≤ 9223372036854775807) (k v : Nat) (hs : s.size ≤ 6000) (hk1 : 1 ≤ k) (hk2 : k ≤ 536870911) (hv : v < 2 ^ 64) {c : Nat} (hx : scrd s.data.toList d = .error c) :
 Calls Try.prog 11 #[.string s, .int .i64 d, .int .i64 (k : Int), .int .u64 (v : Int)] w fun e w' => e = .returned (.bool true) ∧ Below w.heap.size w w' := by
 have d1 : decide ((s.size : Int) > 6000) = false := decide_eq_false (by omega)
 have d2 : decide ((k : Int) < 1) = false := decide_eq_false (by omega)
 have d3 : decide ((k : Int) ≥ 536870912) = false := decide_eq_false (by omega)
 have hsl : s.data.toList.length = s.size := by simp
 obtain ⟨r4, L4, t4, TG, U, hT, hU, HUL, hTs, hUs, I4⟩ := oth_four k hk1 hk2
 obtain ⟨r1, N1, L, hL, HLL, hLs, I1⟩ := oth_one v hv
 have hb4 : scF.tk r4 = false := sc_tko r4 (.inl t4)
 have hb1 : scF.tk r1 = false := sc_tko r1 (.inr N1)
 obtain ⟨sU, hsU⟩ : ∃ X : ByteArray, s ++ U = X := ⟨_, rfl⟩
 obtain ⟨Us, hUs'⟩ : ∃ X : ByteArray, U ++ s = X := ⟨_, rfl⟩
 obtain ⟨Lq, hLq⟩ : ∃ X : ByteArray, L ++ s = X := ⟨_, rfl⟩
 obtain ⟨LL, hLL⟩ : ∃ X : ByteArray, Lq ++ L = X := ⟨_, rfl⟩
 have hsUl : sU.data.toList = s.data.toList ++ r4.raw := by rw [← hsU, ← HUL]; simp [ByteArray.data_append]
 have hUsl : Us.data.toList = r4.raw ++ s.data.toList := by rw [← hUs', ← HUL]; simp [ByteArray.data_append]
 have hLLl : LL.data.toList = r1.raw ++ (s.data.toList ++ r1.raw) := by rw [← hLL, ← hLq, ← HLL]; simp [ByteArray.data_append]
 have z1 : sU.size ≤ 6020 := by rw [← hsU, ByteArray.size_append]; omega
 have z2 : Us.size ≤ 6020 := by rw [← hUs', ByteArray.size_append]; omega
 have z3 : Lq.size ≤ 6020 := by rw [← hLq, ByteArray.size_append]; omega
 have z4 : LL.size ≤ 6040 := by rw [← hLL, ByteArray.size_append]; omega
 have HS1 := Lib.hid (fun w' => unsc_any (Lib.hid ukey_any) s d w' (by omega) hd)
 have HS2 := Lib.hid (fun w' => unsc_any (Lib.hid ukey_any) sU d w' (by omega) hd)
 have HS3 := Lib.hid (fun w' => unsc_any (Lib.hid ukey_any) Us d w' (by omega) hd)
 have HS4 := Lib.hid (fun w' => unsc_any (Lib.hid ukey_any) LL d w' (by omega) hd)
 rw [hx] at HS1
 rw [hUsl] at HS3
 obtain ⟨c', hc'⟩ := mread_before_no (σ := List UInt8 × List UInt8 × List KV × Nat) r4 I4 hb4 hx
 rw [show scrd (r4.raw ++ s.data.toList) d = .error c' from hc'] at HS3
 clear hc'
 have o1 : ¬ 9223372036854775807 < TG.size + (ByteArray.mk #[97, 98, 99, 100]).size := by
  have : (ByteArray.mk #[97, 98, 99, 100]).size = 4 := rfl
  omega
 have o2 : ¬ 9223372036854775807 < s.size + U.size := by omega
 have o3 : ¬ 9223372036854775807 < U.size + s.size := by omega
 have o6 : ¬ 9223372036854775807 < L.size + s.size := by omega
 have o7 : ¬ 9223372036854775807 < Lq.size + L.size := by omega
 have HT := Lib.hid hT
 have HU := Lib.hid hU
 have HL := Lib.hid hL
 have HsU := Lib.hid hsU
 have HUs := Lib.hid hUs'
 have HLq := Lib.hid hLq
 have HLQL := Lib.hid hLL
 have HK1 := Lib.hid hk1
 have HK2 := Lib.hid hk2
 have HV := Lib.hid hv
 clear hd hk1 hk2 hv hx hsl hT hU hL HUL HLL hsU hUs' hLq hLL hsUl hUsl hLLl hb4 hb1 t4 N1 I4 I1
 have hb : Below w.heap.size w w := Below.refl _ _
 have H1 := Lib.hid (Fx.nil w)
 have H2 := Lib.hid (H1.out.base (hb))
 clear H1
 clear hb
 go_enter Try.func11, Try.ntmps11
 go_wp2_with fail
 refine (first10 w).mono ?_; rintro e w1 ⟨rfl, hb⟩
 have H3 := Lib.hid (H2.out.below hb)
 clear hb H2
 go_wp2_with fail
 refine (HS1.out w1).mono ?_; rintro e w2 ⟨hb, v1, q1, rfl, _, hew⟩
 obtain ⟨T1, y1, rfl⟩ := hew.iface
 clear hew HS1
 unfold sczero
 have H4 := Lib.hid (H3.out.below hb)
 clear hb H3
 go_wp2_with fail
 obtain ⟨bl1, hbl⟩ : ∃ b, w2.heap.size = b := ⟨_, rfl⟩
 obtain ⟨W3, hW⟩ : ∃ W, w2.alloc (.cells #[.string ⟨#[]⟩, .string ⟨#[]⟩, .slice none 0 0, .int .u32 0, .string ⟨#[]⟩] 25) = W := ⟨_, rfl⟩
 have hb : Below w2.heap.size w2 W3 := by rw [← hW]; exact below_new _ _
 have hr : W3.heap[bl1]? = some (.cells #[.string ⟨#[]⟩, .string ⟨#[]⟩, .slice none 0 0, .int .u32 0, .string ⟨#[]⟩] 25 (0, 0)) := by rw [← hW, ← hbl]; exact new_row _ _ _
 rw [hW, hbl]
 have HBL1 : Hid (w2.heap.size = bl1) := Lib.hid hbl
 have HZB1 : Hid (w.heap.size ≤ bl1) := Lib.hid (by have := (H4.out.is.1).size; omega)
 clear hW hbl
 have H5 := Lib.hid (H4.out.below hb)
 clear hb H4
 have H6 := Lib.hid (H5.out.row (hr))
 clear H5
 clear hr
 have HLT1 : Hid (bl1 < W3.heap.size) := Lib.hid (row_lt (H6.out.is.1))
 refine (tag_any (k : Int) 5 W3 (by have := HK1.out; omega) (by have := HK2.out; omega) (by omega) (by omega)).mono ?_; rintro e w4 ⟨rfl, hb⟩
 rw [HT.out]
 have H7 := Lib.hid (H6.out.below hb)
 clear hb H6
 go_wp2_with fail
 rw [HU.out]
 go_wp2_with fail
 rw [HsU.out]
 refine (HS2.out w4).mono ?_; intro e w5 hpost
 obtain ⟨hb, A2, B2, lo2, ln2, lc2, m2, U2, v2, rfl⟩ := sc_form hpost
 clear hpost HS2
 have H8 := Lib.hid (H7.out.below hb)
 clear hb H7
 go_wp2_with fail
 obtain ⟨bl2, hbl⟩ : ∃ b, w5.heap.size = b := ⟨_, rfl⟩
 obtain ⟨W6, hW⟩ : ∃ W, w5.alloc (.cells #[.string A2, .string B2, .slice lo2 ln2 lc2, .int .u32 m2, .string U2] 25) = W := ⟨_, rfl⟩
 have hb : Below w5.heap.size w5 W6 := by rw [← hW]; exact below_new _ _
 have hr : W6.heap[bl2]? = some (.cells #[.string A2, .string B2, .slice lo2 ln2 lc2, .int .u32 m2, .string U2] 25 (0, 0)) := by rw [← hW, ← hbl]; exact new_row _ _ _
 rw [hW, hbl]
 have HBL2 : Hid (w5.heap.size = bl2) := Lib.hid hbl
 have HZB2 : Hid (w.heap.size ≤ bl2) := Lib.hid (by have := (H8.out.is.2.1).size; omega)
 clear hW hbl
 have HNE2 : Hid (bl1 < bl2) := Lib.hid (by have := row_lt (H8.out.is.1); have := HBL2.out; omega)
 have H9 := Lib.hid (H8.out.below hb)
 clear hb H8
 have H10 := Lib.hid (H9.out.row (hr))
 clear H9
 clear hr
 have HLT2 : Hid (bl2 < W6.heap.size) := Lib.hid (row_lt (H10.out.is.1))
 go_wp2_with fail
 rw [HUs.out]
 refine (HS3.out W6).mono ?_; rintro e w7 ⟨hb, v3, q3, rfl, _, hew⟩
 obtain ⟨T3, y3, rfl⟩ := hew.iface
 clear hew HS3
 unfold sczero
 have H11 := Lib.hid (H10.out.below hb)
 clear hb H10
 go_wp2_with fail
 obtain ⟨bl3, hbl⟩ : ∃ b, w7.heap.size = b := ⟨_, rfl⟩
 obtain ⟨W8, hW⟩ : ∃ W, w7.alloc (.cells #[.string ⟨#[]⟩, .string ⟨#[]⟩, .slice none 0 0, .int .u32 0, .string ⟨#[]⟩] 25) = W := ⟨_, rfl⟩
 have hb : Below w7.heap.size w7 W8 := by rw [← hW]; exact below_new _ _
 have hr : W8.heap[bl3]? = some (.cells #[.string ⟨#[]⟩, .string ⟨#[]⟩, .slice none 0 0, .int .u32 0, .string ⟨#[]⟩] 25 (0, 0)) := by rw [← hW, ← hbl]; exact new_row _ _ _
 rw [hW, hbl]
 have HBL3 : Hid (w7.heap.size = bl3) := Lib.hid hbl
 have HZB3 : Hid (w.heap.size ≤ bl3) := Lib.hid (by have := (H11.out.is.2.2.1).size; omega)
 clear hW hbl
 have HNE3 : Hid (bl2 < bl3) := Lib.hid (by have := row_lt (H11.out.is.1); have := HBL3.out; omega)
 have H12 := Lib.hid (H11.out.below hb)
 clear hb H11
 have H13 := Lib.hid (H12.out.row (hr))
 clear H12
 clear hr
 refine (first10 W8).mono ?_; rintro e w9 ⟨rfl, hb⟩
 have H14 := Lib.hid (H13.out.below hb)
 clear hb H13
 go_wp2_with fail
 go_ret
 exact ⟨rfl, H14.out.is.2.2.2.1⟩
set_option maxRecDepth 1000000 in
set_option maxHeartbeats 16000000 in
theorem scoth_C (s : ByteArray) (d : Int) (w : World) (hd : -9223372036854775808 ≤ d ∧ d ≤ 9223372036854775807) (k v : Nat) (hs : s.size ≤ 6000) (hk1 : 1 ≤ k) (hk2 : k ≤ 536870911) (hv : v < 2 ^ 64) {x : (List UInt8 × List UInt8 × List KV × Nat) × List UInt8} (hx : scrd s.data.toList d = .ok x) :
 Calls Try.prog 11 #[.string s, .int .i64 d, .int .i64 (k : Int), .int .u64 (v : Int)] w fun e w' => e = .returned (.bool true) ∧ Below w.heap.size w w' := by
 have d1 : decide ((s.size : Int) > 6000) = false := decide_eq_false (by omega)
 have d2 : decide ((k : Int) < 1) = false := decide_eq_false (by omega)
 have d3 : decide ((k : Int) ≥ 536870912) = false := decide_eq_false (by omega)
 have hsl : s.data.toList.length = s.size := by simp
 obtain ⟨r4, L4, t4, TG, U, hT, hU, HUL, hTs, hUs, I4⟩ := oth_four k hk1 hk2
 obtain ⟨r1, N1, L, hL, HLL, hLs, I1⟩ := oth_one v hv
 have hb4 : scF.tk r4 = false := sc_tko r4 (.inl t4)
 have hb1 : scF.tk r1 = false := sc_tko r1 (.inr N1)
 obtain ⟨sU, hsU⟩ : ∃ X : ByteArray, s ++ U = X := ⟨_, rfl⟩
 obtain ⟨Us, hUs'⟩ : ∃ X : ByteArray, U ++ s = X := ⟨_, rfl⟩
 obtain ⟨Lq, hLq⟩ : ∃ X : ByteArray, L ++ s = X := ⟨_, rfl⟩
 obtain ⟨LL, hLL⟩ : ∃ X : ByteArray, Lq ++ L = X := ⟨_, rfl⟩
 have hsUl : sU.data.toList = s.data.toList ++ r4.raw := by rw [← hsU, ← HUL]; simp [ByteArray.data_append]
 have hUsl : Us.data.toList = r4.raw ++ s.data.toList := by rw [← hUs', ← HUL]; simp [ByteArray.data_append]
 have hLLl : LL.data.toList = r1.raw ++ (s.data.toList ++ r1.raw) := by rw [← hLL, ← hLq, ← HLL]; simp [ByteArray.data_append]
 have z1 : sU.size ≤ 6020 := by rw [← hsU, ByteArray.size_append]; omega
 have z2 : Us.size ≤ 6020 := by rw [← hUs', ByteArray.size_append]; omega
 have z3 : Lq.size ≤ 6020 := by rw [← hLq, ByteArray.size_append]; omega
 have z4 : LL.size ≤ 6040 := by rw [← hLL, ByteArray.size_append]; omega
 have HS1 := Lib.hid (fun w' => unsc_any (Lib.hid ukey_any) s d w' (by omega) hd)
 have HS2 := Lib.hid (fun w' => unsc_any (Lib.hid ukey_any) sU d w' (by omega) hd)
 have HS3 := Lib.hid (fun w' => unsc_any (Lib.hid ukey_any) Us d w' (by omega) hd)
 have HS4 := Lib.hid (fun w' => unsc_any (Lib.hid ukey_any) LL d w' (by omega) hd)
 rw [hx] at HS1
 rw [hUsl] at HS3
 obtain ⟨⟨a, b, l, n0⟩, u⟩ := x
 rw [hsUl, show scrd (s.data.toList ++ r4.raw) d = .ok ((a, b, l, n0), u ++ r4.raw) from mread_behind (σ := List UInt8 × List UInt8 × List KV × Nat) r4 I4 hb4 hx] at HS2
 rw [show scrd (r4.raw ++ s.data.toList) d = .ok ((a, b, l, n0), r4.raw ++ u) from mread_before (σ := List UInt8 × List UInt8 × List KV × Nat) r4 I4 hb4 hx] at HS3
 rw [hLLl, show scrd (r1.raw ++ (s.data.toList ++ r1.raw)) d = .ok ((a, b, l, n0), r1.raw ++ (u ++ r1.raw)) from mread_before (σ := List UInt8 × List UInt8 × List KV × Nat) r1 I1 hb1 (mread_behind (σ := List UInt8 × List UInt8 × List KV × Nat) r1 I1 hb1 hx)] at HS4
 obtain ⟨S1, hS1⟩ : ∃ X : ByteArray, (⟨u.toArray⟩ : ByteArray) = X := ⟨_, rfl⟩
 obtain ⟨T1, hT1⟩ : ∃ X : ByteArray, (⟨(u ++ r4.raw).toArray⟩ : ByteArray) = X := ⟨_, rfl⟩
 obtain ⟨V1, hV1⟩ : ∃ X : ByteArray, (⟨(r4.raw ++ u).toArray⟩ : ByteArray) = X := ⟨_, rfl⟩
 obtain ⟨F1, hF1⟩ : ∃ X : ByteArray, (⟨(r1.raw ++ (u ++ r1.raw)).toArray⟩ : ByteArray) = X := ⟨_, rfl⟩
 obtain ⟨LS, hLS⟩ : ∃ X : ByteArray, L ++ S1 = X := ⟨_, rfl⟩
 have hSs : S1.size ≤ 6000 := by
  have h1 := mread_unk (σ := List UInt8 × List UInt8 × List KV × Nat) hx
  have : S1.size = u.length := by rw [← hS1]; simp [ByteArray.size]
  omega
 have hLSs : LS.size ≤ 6020 := by rw [← hLS, ByteArray.size_append]; omega
 have e1 : T1 = S1 ++ U := by rw [← hT1, ← hS1]; exact ByteArray.ext (Array.ext' (by simp [HUL]))
 have e2 : V1 = U ++ S1 := by rw [← hV1, ← hS1]; exact ByteArray.ext (Array.ext' (by simp [HUL]))
 have e3 : F1 = LS ++ L := by rw [← hF1, ← hLS, ← hS1]; exact ByteArray.ext (Array.ext' (by simp [HLL]))
 have ht1 : (T1.toList == (S1 ++ U).toList) = true := by rw [e1]; simp
 have ht2 : (V1.toList == (U ++ S1).toList) = true := by rw [e2]; simp
 have ht3 : (F1.toList == (LS ++ L).toList) = true := by rw [e3]; simp
 have o4 : ¬ 9223372036854775807 < S1.size + U.size := by omega
 have o5 : ¬ 9223372036854775807 < U.size + S1.size := by omega
 have o8 : ¬ 9223372036854775807 < L.size + S1.size := by omega
 have o9 : ¬ 9223372036854775807 < LS.size + L.size := by omega
 obtain ⟨hmay, hfit⟩ := sc_twice (by omega) hx
 have HLIM := Lib.hid (sc_lim hfit)
 have HSN := Lib.hid hS1
 have HTN := Lib.hid hT1
 have HVN := Lib.hid hV1
 have HFN := Lib.hid hF1
 have HLSN := Lib.hid hLS
 clear hmay hfit e1 e2 e3 hS1 hT1 hV1 hF1 hLS
 obtain ⟨AX, ha⟩ : ∃ X : ByteArray, (⟨a.toArray⟩ : ByteArray) = X := ⟨_, rfl⟩
 have HAN := Lib.hid ha
 clear ha
 obtain ⟨BX, hb⟩ : ∃ X : ByteArray, (⟨b.toArray⟩ : ByteArray) = X := ⟨_, rfl⟩
 have HBN := Lib.hid hb
 clear hb
 have o1 : ¬ 9223372036854775807 < TG.size + (ByteArray.mk #[97, 98, 99, 100]).size := by
  have : (ByteArray.mk #[97, 98, 99, 100]).size = 4 := rfl
  omega
 have o2 : ¬ 9223372036854775807 < s.size + U.size := by omega
 have o3 : ¬ 9223372036854775807 < U.size + s.size := by omega
 have o6 : ¬ 9223372036854775807 < L.size + s.size := by omega
 have o7 : ¬ 9223372036854775807 < Lq.size + L.size := by omega
 have HT := Lib.hid hT
 have HU := Lib.hid hU
 have HL := Lib.hid hL
 have HsU := Lib.hid hsU
 have HUs := Lib.hid hUs'
 have HLq := Lib.hid hLq
 have HLQL := Lib.hid hLL
 have HK1 := Lib.hid hk1
 have HK2 := Lib.hid hk2
 have HV := Lib.hid hv
 clear hd hk1 hk2 hv hx hsl hT hU hL HUL HLL hsU hUs' hLq hLL hsUl hUsl hLLl hb4 hb1 t4 N1 I4 I1
 have hb : Below w.heap.size w w := Below.refl _ _
 have H1 := Lib.hid (Fx.nil w)
 have H2 := Lib.hid (H1.out.base (hb))
 clear H1
 clear hb
 go_enter Try.func11, Try.ntmps11
 go_wp2_with fail
 refine (first10 w).mono ?_; rintro e w1 ⟨rfl, hb⟩
 have H3 := Lib.hid (H2.out.below hb)
 clear hb H2
 go_wp2_with fail
 refine (HS1.out w1).mono ?_; rintro e w2 ⟨hb, cs, rfl, lo1, lc1, rfl, hk1⟩
 clear HS1
 dsimp only [strV]
 rw [HSN.out, HAN.out, HBN.out]
 have H4 := Lib.hid (H3.out.below hb)
 clear hb H3
 have hk1 := KRels.lt _ _ _ hk1
 have H5 := Lib.hid (H4.out.krels (hk1))
 clear H4
 clear hk1
 go_wp2_with fail
 obtain ⟨bl1, hbl⟩ : ∃ b, w2.heap.size = b := ⟨_, rfl⟩
 obtain ⟨W3, hW⟩ : ∃ W, w2.alloc (.cells #[.string AX, .string BX, .slice lo1 l.length lc1, .int .u32 (n0 : Int), .string S1] 25) = W := ⟨_, rfl⟩
 have hb : Below w2.heap.size w2 W3 := by rw [← hW]; exact below_new _ _
 have hr : W3.heap[bl1]? = some (.cells #[.string AX, .string BX, .slice lo1 l.length lc1, .int .u32 (n0 : Int), .string S1] 25 (0, 0)) := by rw [← hW, ← hbl]; exact new_row _ _ _
 rw [hW, hbl]
 have HBL1 : Hid (w2.heap.size = bl1) := Lib.hid hbl
 have HZB1 : Hid (w.heap.size ≤ bl1) := Lib.hid (by have := (H5.out.is.2.1).size; omega)
 clear hW hbl
 have H6 := Lib.hid (H5.out.below hb)
 clear hb H5
 have H7 := Lib.hid (H6.out.row (hr))
 clear H6
 clear hr
 have HLT1 : Hid (bl1 < W3.heap.size) := Lib.hid (row_lt (H7.out.is.1))
 refine (tag_any (k : Int) 5 W3 (by have := HK1.out; omega) (by have := HK2.out; omega) (by omega) (by omega)).mono ?_; rintro e w4 ⟨rfl, hb⟩
 rw [HT.out]
 have H8 := Lib.hid (H7.out.below hb)
 clear hb H7
 go_wp2_with fail
 rw [HU.out]
 go_wp2_with fail
 rw [HsU.out]
 refine (HS2.out w4).mono ?_; rintro e w5 ⟨hb, cs, rfl, lo2, lc2, rfl, hk2⟩
 clear HS2
 dsimp only [strV]
 rw [HTN.out, HAN.out, HBN.out]
 have H9 := Lib.hid (H8.out.below hb)
 clear hb H8
 have hk2 := KRels.lt _ _ _ hk2
 have H10 := Lib.hid (H9.out.krels (hk2))
 clear H9
 clear hk2
 go_wp2_with fail
 obtain ⟨bl2, hbl⟩ : ∃ b, w5.heap.size = b := ⟨_, rfl⟩
 obtain ⟨W6, hW⟩ : ∃ W, w5.alloc (.cells #[.string AX, .string BX, .slice lo2 l.length lc2, .int .u32 (n0 : Int), .string T1] 25) = W := ⟨_, rfl⟩
 have hb : Below w5.heap.size w5 W6 := by rw [← hW]; exact below_new _ _
 have hr : W6.heap[bl2]? = some (.cells #[.string AX, .string BX, .slice lo2 l.length lc2, .int .u32 (n0 : Int), .string T1] 25 (0, 0)) := by rw [← hW, ← hbl]; exact new_row _ _ _
 rw [hW, hbl]
 have HBL2 : Hid (w5.heap.size = bl2) := Lib.hid hbl
 have HZB2 : Hid (w.heap.size ≤ bl2) := Lib.hid (by have := (H10.out.is.2.2.2.1).size; omega)
 clear hW hbl
 have HNE2 : Hid (bl1 < bl2) := Lib.hid (by have := row_lt (H10.out.is.2.1); have := HBL2.out; omega)
 have H11 := Lib.hid (H10.out.below hb)
 clear hb H10
 have H12 := Lib.hid (H11.out.row (hr))
 clear H11
 clear hr
 have HLT2 : Hid (bl2 < W6.heap.size) := Lib.hid (row_lt (H12.out.is.1))
 go_wp2_with fail
 rw [HUs.out]
 refine (HS3.out W6).mono ?_; rintro e w7 ⟨hb, cs, rfl, lo3, lc3, rfl, hk3⟩
 clear HS3
 dsimp only [strV]
 rw [HVN.out, HAN.out, HBN.out]
 have H13 := Lib.hid (H12.out.below hb)
 clear hb H12
 have hk3 := KRels.lt _ _ _ hk3
 have H14 := Lib.hid (H13.out.krels (hk3))
 clear H13
 clear hk3
 go_upto_region 11 with fail
 obtain ⟨bl3, hbl⟩ : ∃ b, w7.heap.size = b := ⟨_, rfl⟩
 obtain ⟨W8, hW⟩ : ∃ W, w7.alloc (.cells #[.string AX, .string BX, .slice lo3 l.length lc3, .int .u32 (n0 : Int), .string V1] 25) = W := ⟨_, rfl⟩
 have hb : Below w7.heap.size w7 W8 := by rw [← hW]; exact below_new _ _
 have hr : W8.heap[bl3]? = some (.cells #[.string AX, .string BX, .slice lo3 l.length lc3, .int .u32 (n0 : Int), .string V1] 25 (0, 0)) := by rw [← hW, ← hbl]; exact new_row _ _ _
 rw [hW, hbl]
 have HBL3 : Hid (w7.heap.size = bl3) := Lib.hid hbl
 have HZB3 : Hid (w.heap.size ≤ bl3) := Lib.hid (by have := (H14.out.is.2.2.2.2.2.1).size; omega)
 clear hW hbl
 have HNE3 : Hid (bl2 < bl3) := Lib.hid (by have := row_lt (H14.out.is.2.1); have := HBL3.out; omega)
 have H15 := Lib.hid (H14.out.below hb)
 clear hb H14
 have H16 := Lib.hid (H15.out.row (hr))
 clear H15
 clear hr
 have ca : W8.cell? ⟨bl1, 4, none⟩ = some (.string S1) := row_cell (H16.out.is.2.2.2.2.1) (j := 4) rfl
 have cb : W8.cell? ⟨bl2, 4, none⟩ = some (.string T1) := row_cell (H16.out.is.2.2.1) (j := 4) rfl
 have cc : W8.cell? ⟨bl3, 4, none⟩ = some (.string V1) := row_cell (H16.out.is.1) (j := 4) rfl
 go_wp2_with fail
 clear ca cb cc
 obtain ⟨D5, hD5⟩ : ∃ D, W8.drew = D := ⟨_, rfl⟩
 have hb : Below W8.heap.size W8 D5 := by rw [← hD5]; exact (Below.refl _ _).drew
 have H17 := Lib.hid (H16.out.below hb)
 clear hb H16
 have hX5 : Hid (D5.heap[bl1]? = some (.cells #[.string AX, .string BX, .slice lo1 l.length lc1, .int .u32 (n0 : Int), .string S1] 25 (0, 0))) := Lib.hid (H17.out.is.2.2.2.2.1)
 have hY5 : Hid (D5.heap[bl2]? = some (.cells #[.string AX, .string BX, .slice lo2 l.length lc2, .int .u32 (n0 : Int), .string T1] 25 (0, 0))) := Lib.hid (H17.out.is.2.2.1)
 have hZ5 : Hid (D5.heap[bl3]? = some (.cells #[.string AX, .string BX, .slice lo3 l.length lc3, .int .u32 (n0 : Int), .string V1] 25 (0, 0))) := Lib.hid (H17.out.is.1)
 have ca : D5.cell? ⟨bl1, 4, none⟩ = some (.string S1) := row_cell (hX5.out) (j := 4) rfl
 have cf : D5.frozen? ⟨bl2, 4, none⟩ = false := row_thaw hY5.out 4
 have cb : D5.cell? ⟨bl2, 4, none⟩ = some (.string T1) := row_cell (hY5.out) (j := 4) rfl
 have hne : Nonempty {w' : World // (fun w' => w'.cell? ⟨bl1, 4, none⟩ = some (.string S1)) w'} := ⟨⟨_, ca⟩⟩
 refine wp_region_seq (S := fun w' => w'.cell? ⟨bl1, 4, none⟩ = some (.string S1)) [(0, true), (1, true), (2, true), (3, true), (4, true), (5, false), (6, true), (7, false)] (by kernel_rfl) (by kernel_rfl) (by kernel_rfl) (by kernel_rfl) (by rw [hD5]; exact ca) ?_
 rw [hD5]
 clear hD5
 iterate 5 (refine seq_take _ rfl (fun KC hK => ?_); go_simp; (first | refine hK _ ?_ | refine ⟨_, fun _ _ => rfl, hK _ ?_⟩ | refine ⟨.string S1, fun a ha => by rw [ha]; rfl, hK _ ?_⟩); clear hK KC)
 refine seq_come _ rfl (fun KC hK => ?_); go_simp
 obtain ⟨D6, hD6⟩ : ∃ D, D5.setCell ⟨bl2, 4, none⟩ (.string S1) = D := ⟨_, rfl⟩
 have hu6 := Upd.set D5 ⟨bl2, 4, none⟩ (.string S1)
 rw [hD6] at hu6 ⊢
 have hX6 : Hid (D6.heap[bl1]? = some (.cells #[.string AX, .string BX, .slice lo1 l.length lc1, .int .u32 (n0 : Int), .string S1] 25 (0, 0))) := Lib.hid ((hu6.block bl1 (row_lt hX5.out) (fun e => by have e : bl1 = bl2 := e; have := HNE2.out; omega)).trans hX5.out)
 have hZ6 : Hid (D6.heap[bl3]? = some (.cells #[.string AX, .string BX, .slice lo3 l.length lc3, .int .u32 (n0 : Int), .string V1] 25 (0, 0))) := Lib.hid ((hu6.block bl3 (row_lt hZ5.out) (fun e => by have e : bl3 = bl2 := e; have := HNE3.out; omega)).trans hZ5.out)
 have hY6 : Hid (D6.heap[bl2]? = some (.cells #[.string AX, .string BX, .slice lo2 l.length lc2, .int .u32 (n0 : Int), .string S1] 25 (0, 0))) := Lib.hid (by rw [← hD6]; exact row_set hY5.out 4 _)
 have HU6 : Hid (Upd (fun k => k = bl2 ∨ k = bl3) D5 D6) := Lib.hid (hu6.mono fun k _ h => .inl h)
 clear hD6 hu6 ca cf cb hY5 hX5 hZ5
 have ca : D6.cell? ⟨bl1, 4, none⟩ = some (.string S1) := row_cell (hX6.out) (j := 4) rfl
 have cf : D6.frozen? ⟨bl3, 4, none⟩ = false := row_thaw hZ6.out 4
 have cb : D6.cell? ⟨bl3, 4, none⟩ = some (.string V1) := row_cell (hZ6.out) (j := 4) rfl
 refine hK.out _ _ ca ?_; clear hK KC
 iterate 1 (refine seq_take _ rfl (fun KC hK => ?_); go_simp; (first | refine hK _ ?_ | refine ⟨_, fun _ _ => rfl, hK _ ?_⟩ | refine ⟨.string S1, fun a ha => by rw [ha]; rfl, hK _ ?_⟩); clear hK KC)
 refine seq_come _ rfl (fun KC hK => ?_); go_simp
 obtain ⟨D7, hD7⟩ : ∃ D, D6.setCell ⟨bl3, 4, none⟩ (.string S1) = D := ⟨_, rfl⟩
 have hu7 := Upd.set D6 ⟨bl3, 4, none⟩ (.string S1)
 rw [hD7] at hu7 ⊢
 have hX7 : Hid (D7.heap[bl1]? = some (.cells #[.string AX, .string BX, .slice lo1 l.length lc1, .int .u32 (n0 : Int), .string S1] 25 (0, 0))) := Lib.hid ((hu7.block bl1 (row_lt hX6.out) (fun e => by have e : bl1 = bl3 := e; have := HNE2.out; have := HNE3.out; omega)).trans hX6.out)
 have hY7 : Hid (D7.heap[bl2]? = some (.cells #[.string AX, .string BX, .slice lo2 l.length lc2, .int .u32 (n0 : Int), .string S1] 25 (0, 0))) := Lib.hid ((hu7.block bl2 (row_lt hY6.out) (fun e => by have e : bl2 = bl3 := e; have := HNE3.out; omega)).trans hY6.out)
 have hZ7 : Hid (D7.heap[bl3]? = some (.cells #[.string AX, .string BX, .slice lo3 l.length lc3, .int .u32 (n0 : Int), .string S1] 25 (0, 0))) := Lib.hid (by rw [← hD7]; exact row_set hZ6.out 4 _)
 have HU7 : Hid (Upd (fun k => k = bl2 ∨ k = bl3) D5 D7) := Lib.hid (HU6.out.trans (hu7.mono fun k _ h => .inr h))
 clear hD7 hu7 ca cf cb hX6 hY6 hZ6 HU6
 have ca : D7.cell? ⟨bl1, 4, none⟩ = some (.string S1) := row_cell (hX7.out) (j := 4) rfl
 refine hK.out _ _ ca ?_; clear hK KC
 refine seq_done ?_
 clear ca hne
 have hbase : Below w.heap.size w D7 := (H17.out.is.2.2.2.2.2.2.1).trans (HU7.out.below ((H17.out.is.2.2.2.2.2.2.1).size) (fun k _ h => by have := HZB2.out; have := HZB3.out; rcases h with h | h <;> omega))
 have hk1 := Lib.hid (KRels.upd HU7.out (Q := fun _ => True) (fun k hk h => by have := HNE2.out; have := HNE3.out; have := HLT1.out; have := HLT2.out; have := HBL1.out; have := HBL2.out; have := HBL3.out; omega) (fun _ _ => trivial) _ _ _ (H17.out.is.2.2.2.2.2.1))
 have hk2 := Lib.hid (KRels.upd HU7.out (Q := fun _ => True) (fun k hk h => by have := HNE2.out; have := HNE3.out; have := HLT1.out; have := HLT2.out; have := HBL1.out; have := HBL2.out; have := HBL3.out; omega) (fun _ _ => trivial) _ _ _ (H17.out.is.2.2.2.1))
 have hk3 := Lib.hid (KRels.upd HU7.out (Q := fun _ => True) (fun k hk h => by have := HNE2.out; have := HNE3.out; have := HLT1.out; have := HLT2.out; have := HBL1.out; have := HBL2.out; have := HBL3.out; omega) (fun _ _ => trivial) _ _ _ (H17.out.is.2.1))
 clear H17 HU7 HBL1 HBL2 HBL3 HZB1 HZB2 HZB3 HNE2 HNE3 HLT1 HLT2
 have H18 := Lib.hid (Fx.nil D7)
 have H19 := Lib.hid (H18.out.base (hbase))
 clear H18
 clear hbase
 have H20 := Lib.hid (H19.out.row (hX7.out))
 clear H19
 have H21 := Lib.hid (H20.out.row (hY7.out))
 clear H20
 have H22 := Lib.hid (H21.out.row (hZ7.out))
 clear H21
 have H23 := Lib.hid (H22.out.krels (hk1.out))
 clear H22
 have H24 := Lib.hid (H23.out.krels (hk2.out))
 clear H23
 have H25 := Lib.hid (H24.out.krels (hk3.out))
 clear H24
 clear hX7 hY7 hZ7 hk1 hk2 hk3
 go_wp2_with fail
 refine (wfixed_any 536870911 v D7 (by omega) (by omega) HV.out).mono ?_; rintro e w9 ⟨rfl, hb⟩
 rw [HL.out]
 have H26 := Lib.hid (H25.out.below hb)
 clear hb H25
 go_wp2_with fail
 rw [HLq.out]
 go_wp2_with fail
 rw [HLQL.out]
 refine (HS4.out w9).mono ?_; rintro e wa ⟨hb, cs, rfl, lo4, lc4, rfl, hk4⟩
 clear HS4
 dsimp only [strV]
 rw [HFN.out, HAN.out, HBN.out]
 have H27 := Lib.hid (H26.out.below hb)
 clear hb H26
 have hk4 := KRels.lt _ _ _ hk4
 have H28 := Lib.hid (H27.out.krels (hk4))
 clear H27
 clear hk4
 go_wp2_with fail
 obtain ⟨bl4, hbl⟩ : ∃ b, wa.heap.size = b := ⟨_, rfl⟩
 obtain ⟨Wb, hW⟩ : ∃ W, wa.alloc (.cells #[.string AX, .string BX, .slice lo4 l.length lc4, .int .u32 (n0 : Int), .string F1] 25) = W := ⟨_, rfl⟩
 have hb : Below wa.heap.size wa Wb := by rw [← hW]; exact below_new _ _
 have hr : Wb.heap[bl4]? = some (.cells #[.string AX, .string BX, .slice lo4 l.length lc4, .int .u32 (n0 : Int), .string F1] 25 (0, 0)) := by rw [← hW, ← hbl]; exact new_row _ _ _
 rw [hW, hbl]
 have HBL4 : Hid (wa.heap.size = bl4) := Lib.hid hbl
 have HZB4 : Hid (w.heap.size ≤ bl4) := Lib.hid (by have := (H28.out.is.2.2.2.2.2.2.2.1).size; omega)
 clear hW hbl
 have HNE4 : Hid (bl3 < bl4) := Lib.hid (by have := row_lt (H28.out.is.2.2.2.2.1); have := HBL4.out; omega)
 have H29 := Lib.hid (H28.out.below hb)
 clear hb H28
 have H30 := Lib.hid (H29.out.row (hr))
 clear H29
 clear hr
 refine (first10 Wb).mono ?_; rintro e wc ⟨rfl, hb⟩
 have H31 := Lib.hid (H30.out.below hb)
 clear hb H30
 obtain ⟨xa0, xa1, xa2, xa3, xa4⟩ := row5 (H31.out.is.2.2.2.2.2.2.2.1)
 obtain ⟨xb0, xb1, xb2, xb3, xb4⟩ := row5 (H31.out.is.2.2.2.2.2.2.1)
 go_wp2_with fail
 refine (sc_same ((a, b, l, n0), u) ((a, b, l, n0), u) [.string AX, .string BX, .slice lo1 l.length lc1, .int .u32 (n0 : Int), .string S1] [.string AX, .string BX, .slice lo2 l.length lc2, .int .u32 (n0 : Int), .string S1] _ _ wc HLIM.out.1 HLIM.out.2.1 ⟨lo1, lc1, by rw [← HSN.out, ← HAN.out, ← HBN.out]; rfl, H31.out.is.2.2.2.2.1⟩ ⟨lo2, lc2, by rw [← HSN.out, ← HAN.out, ← HBN.out]; rfl, H31.out.is.2.2.2.1⟩).mono ?_; rintro e wd ⟨rfl, hb⟩
 rw [alike_yes rfl]
 clear xa0 xa1 xa2 xa3 xa4 xb0 xb1 xb2 xb3 xb4
 have H32 := Lib.hid (H31.out.below hb)
 clear hb H31
 obtain ⟨xa0, xa1, xa2, xa3, xa4⟩ := row5 (H32.out.is.2.2.2.2.2.2.2.1)
 obtain ⟨xb0, xb1, xb2, xb3, xb4⟩ := row5 (H32.out.is.2.2.2.2.2.1)
 go_wp2_with fail
 refine (sc_same ((a, b, l, n0), u) ((a, b, l, n0), u) [.string AX, .string BX, .slice lo1 l.length lc1, .int .u32 (n0 : Int), .string S1] [.string AX, .string BX, .slice lo3 l.length lc3, .int .u32 (n0 : Int), .string S1] _ _ wd HLIM.out.1 HLIM.out.2.1 ⟨lo1, lc1, by rw [← HSN.out, ← HAN.out, ← HBN.out]; rfl, H32.out.is.2.2.2.2.1⟩ ⟨lo3, lc3, by rw [← HSN.out, ← HAN.out, ← HBN.out]; rfl, H32.out.is.2.2.1⟩).mono ?_; rintro e we ⟨rfl, hb⟩
 rw [alike_yes rfl]
 clear xa0 xa1 xa2 xa3 xa4 xb0 xb1 xb2 xb3 xb4
 have H33 := Lib.hid (H32.out.below hb)
 clear hb H32
 have ca : we.cell? ⟨bl1, 4, none⟩ = some (.string S1) := row_cell (H33.out.is.2.2.2.2.2.2.2.1) (j := 4) rfl
 have cb : we.cell? ⟨bl4, 4, none⟩ = some (.string F1) := row_cell (H33.out.is.1) (j := 4) rfl
 rw [← HLSN.out] at o9 ht3
 go_wp2_with fail
 go_ret
 exact ⟨rfl, H33.out.is.2.2.2.2.2.2.2.2.1⟩
set_option maxRecDepth 1000000 in
set_option maxHeartbeats 16000000 in
theorem scoth_any (s : ByteArray) (d : Int) (w : World) (hd : -9223372036854775808 ≤ d ∧ d ≤ 9223372036854775807) (k v : Int) (hv : 0 ≤ v ∧ v < 18446744073709551616) :
 Calls Try.prog 11 #[.string s, .int .i64 d, .int .i64 k, .int .u64 v] w fun e w' => e = .returned (.bool true) ∧ Below w.heap.size w w' := by
 by_cases h1 : 6000 < s.size
 · exact scoth_long1 s d w k v h1
 by_cases h2 : k < 1
 · exact scoth_long2 s d w k v h1 h2
 by_cases h3 : 536870912 ≤ k
 · exact scoth_long3 s d w k v h1 h2 h3
 obtain ⟨k', rfl⟩ := Int.eq_ofNat_of_zero_le (show 0 ≤ k by omega)
 obtain ⟨v', rfl⟩ := Int.eq_ofNat_of_zero_le hv.1
 cases hx : scrd s.data.toList d with
 | error c => exact scoth_A s d w hd k' v' (by omega) (by omega) (by omega) (by omega) hx
 | ok x => exact scoth_C s d w hd k' v' (by omega) (by omega) (by omega) (by omega) hx
end Go.Proofs.Ytbdbmkmebeemoaa
namespace Go.Proofs.Ytbdbmkmebeemoaa.scopeOthers
open Go.ChangeShapes Go.WideShapes Go.ChangeAt Go.RowKit
open Go.ChangeMaps (open_string shut_string)

theorem own : ownKnob Try.prog.godebug = none := by kernel_rfl

set_option maxRecDepth 100000 in
theorem lifted (os : Os) (started : os.Started) (H : Type) (enc : TypeId × Value → H) :
    ReturnsInHanded {} Try.checked os 11 .any (Rows.scopeOthersSpec.pre6 enc Try.prog Try.f11 Rows.scopeOthersRow.domain false) (Rows.scopeOthersSpec.post enc Try.prog Try.f11 false true false false) := by
  refine returnsInHanded_of_change (C := Try.checked) own started (by kernel_rfl) Try.func11
    (ChangeSpec.witness6 (enc := enc) (C := Try.checked) false ⟨#[], #[.string .empty, .int .i64 0, .int .i64 0, .int .u64 0], []⟩ 8 (by kernel_rfl) (by kernel_rfl) (by kernel_rfl) (by kernel_rfl)) ?_
  intro W base args ds gs before hval0 hW _ _
  have hval : ∀ (j : Nat) t v, Try.f11.params[j]? = some t → args[j]? = some v → Value.okWide Try.prog W .any base t v := hval0
  have hW' := hW
  obtain ⟨p, q, hA0, hV, rfl, hfz, hnd⟩ := hW
  have hA : DataW.TrodAll enc Try.prog W 0 (fun _ => true) true Try.f11.params.toList args.toList ds p := hA0
  rw [Try.params11] at hA hval
  obtain ⟨v0, vs0, d0, ds0, p0, q0, hargs, rfl, rfl, h0, r0⟩ := trodAll_cons hA
  obtain ⟨v1, vs1, d1, ds1, p1, q1, rfl, rfl, rfl, h1, r1⟩ := trodAll_cons r0
  obtain ⟨v2, vs2, d2, ds2, p2, q2, rfl, rfl, rfl, h2, r2⟩ := trodAll_cons r1
  obtain ⟨v3, vs3, d3, ds3, p3, q3, rfl, rfl, rfl, h3, r3⟩ := trodAll_cons r2
  obtain ⟨rfl, rfl, rfl⟩ := trodAll_nil r3
  obtain rfl : args = #[v0, v1, v2, v3] := by cases args; simp_all
  have hpl : ∀ x ∈ p0 ++ (p1 ++ (p2 ++ (p3 ++ []))), x.block < W.heap.size := fun x hx => by simpa using hW'.lt x (List.mem_append_left _ hx)
  obtain ⟨a0, rfl, rfl, rfl, z0⟩ := open_string Try.underlying9 (hval 0 9 v0 rfl rfl) h0
  obtain ⟨a1, rfl, rfl, rfl, w1⟩ := open_int Try.underlying3 (hval 1 3 v1 rfl rfl) h1
  have b1 : -9223372036854775808 ≤ a1 ∧ a1 ≤ 9223372036854775807 := by simp [Lit.wf, IntKind.min, IntKind.max, IntKind.signed, IntKind.bits] at w1; omega
  obtain ⟨a2, rfl, rfl, rfl, w2⟩ := open_int Try.underlying3 (hval 2 3 v2 rfl rfl) h2
  have b2 : -9223372036854775808 ≤ a2 ∧ a2 ≤ 9223372036854775807 := by simp [Lit.wf, IntKind.min, IntKind.max, IntKind.signed, IntKind.bits] at w2; omega
  obtain ⟨a3, rfl, rfl, rfl, w3⟩ := open_int Try.underlying48 (hval 3 48 v3 rfl rfl) h3
  have b3 : 0 ≤ a3 ∧ a3 < 18446744073709551616 := by simp [Lit.wf, IntKind.min, IntKind.max, IntKind.signed, IntKind.bits] at w3; omega
  refine Calls.mono ?_ (fun e W' (h : e = .returned (.bool true) ∧ Below W.heap.size W W') => ⟨_, h.1, law_post (by kernel_rfl) (by kernel_rfl) rfl Try.underlying4 rfl hW' (fun ds hd => by match ds, hd with | [_, _, _, _], _ => rfl) h.2⟩)
  exact scoth_any a0 a1 W b1 a2 a3 b3

theorem proved : Rows.ScopeOthersSaid :=
  OpenClaim.holds_of_wide 11 Try.f11 rfl rfl rfl rfl rfl rfl rfl ⟨rfl, rfl, rfl, rfl, rfl⟩ rfl rfl rfl rfl rfl (by kernel_rfl) Try.func11 (by kernel_rfl)
    (of_decide_eq_true (by kernel_rfl)) (by unfold Func.isWrapper; first | (rw [if_pos (by decide +kernel)]; kernel_rfl) | (rw [if_neg (by decide +kernel)]; exact ⟨rfl, rfl⟩))
    (fun os started H enc _ => lifted os started H enc)
end Go.Proofs.Ytbdbmkmebeemoaa.scopeOthers
