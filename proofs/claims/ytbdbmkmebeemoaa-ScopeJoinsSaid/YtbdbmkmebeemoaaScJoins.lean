/-
  hyglaw10.ResourceJoins, ScopeJoins.
-/
import Derived.Test.YtbdbmkmebeemoaaFirst10
namespace Go.Proofs.Ytbdbmkmebeemoaa
open Go.RowKit

theorem mread_unk {σ : Type} {tk : Rec → Bool} {step : σ → Rec → Except Nat σ} {st st' : σ} {l u : List UInt8} {d : Int} (h : mread tk step st l d = .ok (st', u)) : u.length ≤ l.length := by
  obtain ⟨_, rs, _, h2, _, h4, _⟩ := mread_inv h
  have := tlen_munk tk rs
  rw [h4, ← h2] at this
  omega
/-- what a call of a reader leaves, whether it read or not -/
theorem rs_form {rd : Except Nat ((List KV × Nat) × List UInt8)} {n : Nat} {w w' : World} {e : Ending} (h : RdPost rsCel rszero rd n w e w') : Below w.heap.size w w' ∧ ∃ (lo : Option Addr) (ln lc : Nat) (m : Int) (U : ByteArray) (v : Value), e = .returned (.tuple #[.agg #[.slice lo ln lc, .int .u32 m, .string U], v]) := by
  obtain ⟨hb, h⟩ := h
  refine ⟨hb, ?_⟩
  cases rd with
  | error c => obtain ⟨v, q, rfl, _⟩ := h; exact ⟨_, _, _, _, _, _, rfl⟩
  | ok x => obtain ⟨cs, rfl, lo, lc, rfl, _⟩ := h; exact ⟨_, _, _, _, _, _, rfl⟩
theorem sc_form {rd : Except Nat ((List UInt8 × List UInt8 × List KV × Nat) × List UInt8)} {n : Nat} {w w' : World} {e : Ending} (h : RdPost scCel sczero rd n w e w') : Below w.heap.size w w' ∧ ∃ (A B : ByteArray) (lo : Option Addr) (ln lc : Nat) (m : Int) (U : ByteArray) (v : Value), e = .returned (.tuple #[.agg #[.string A, .string B, .slice lo ln lc, .int .u32 m, .string U], v]) := by
  obtain ⟨hb, h⟩ := h
  refine ⟨hb, ?_⟩
  cases rd with
  | error c => obtain ⟨v, q, rfl, _⟩ := h; exact ⟨_, _, _, _, _, _, _, _, rfl⟩
  | ok x => obtain ⟨cs, rfl, lo, lc, rfl, _⟩ := h; exact ⟨_, _, _, _, _, _, _, _, rfl⟩
set_option maxRecDepth 1000000 in
set_option maxHeartbeats 8000000 in
theorem rsjoin_long1 (s t : ByteArray) (d : Int) (w : World) (hs : 3000 < s.size) :
 Calls Try.prog 10 #[.string s, .string t, .int .i64 d] w fun e w' => e = .returned (.bool true) ∧ Below w.heap.size w w' := by
 have q0 : decide ((3000 : Int) < (s.size : Int)) = true := decide_eq_true (by omega)
 clear hs
 have H1 := Lib.hid (Fx.nil w)
 have hb : Below w.heap.size w w := Below.refl _ _
 have H2 := Lib.hid (H1.out.base (hb))
 clear H1
 clear hb
 go_enter Try.func10, Try.ntmps10
 go_wp2_with fail
 refine (first10 w).mono ?_; rintro e w1 ⟨rfl, hb⟩
 have H3 := Lib.hid (H2.out.below hb)
 clear hb H2
 go_wp2_with fail
 refine (first10 w1).mono ?_; rintro e w2 ⟨rfl, hb⟩
 have H4 := Lib.hid (H3.out.below hb)
 clear hb H3
 go_wp2_with fail
 go_ret
 exact ⟨rfl, H4.out.is.1⟩
set_option maxRecDepth 1000000 in
set_option maxHeartbeats 8000000 in
theorem rsjoin_long2 (s t : ByteArray) (d : Int) (w : World) (hs : ¬ 3000 < s.size) (ht : 3000 < t.size) :
 Calls Try.prog 10 #[.string s, .string t, .int .i64 d] w fun e w' => e = .returned (.bool true) ∧ Below w.heap.size w w' := by
 have q0 : decide ((3000 : Int) < (s.size : Int)) = false := decide_eq_false (by omega)
 have q1 : decide ((3000 : Int) < (t.size : Int)) = true := decide_eq_true (by omega)
 clear hs ht
 have H1 := Lib.hid (Fx.nil w)
 have hb : Below w.heap.size w w := Below.refl _ _
 have H2 := Lib.hid (H1.out.base (hb))
 clear H1
 clear hb
 go_enter Try.func10, Try.ntmps10
 go_wp2_with fail
 refine (first10 w).mono ?_; rintro e w1 ⟨rfl, hb⟩
 have H3 := Lib.hid (H2.out.below hb)
 clear hb H2
 go_wp2_with fail
 refine (first10 w1).mono ?_; rintro e w2 ⟨rfl, hb⟩
 have H4 := Lib.hid (H3.out.below hb)
 clear hb H3
 go_wp2_with fail
 go_ret
 exact ⟨rfl, H4.out.is.1⟩
set_option maxRecDepth 1000000 in
set_option maxHeartbeats 8000000 in
theorem rsjoin_A (s t : ByteArray) (d : Int) (w : World) (hd : -9223372036854775808 ≤ d ∧ d ≤ 9223372036854775807) (hs : s.size ≤ 3000) (ht : t.size ≤ 3000) {c : Nat} (h1 : rsrd s.data.toList d = .error c) :
 Calls Try.prog 10 #[.string s, .string t, .int .i64 d] w fun e w' => e = .returned (.bool true) ∧ Below w.heap.size w w' := by
 have q0 : decide ((3000 : Int) < (s.size : Int)) = false := decide_eq_false (by omega)
 have q1 : decide ((3000 : Int) < (t.size : Int)) = false := decide_eq_false (by omega)
 have q2 : ¬ 9223372036854775807 < s.size + t.size := by omega
 have HS1 := Lib.hid (fun w' => unres_any (Lib.hid ukey_any) s d w' (by omega) hd)
 have HS2 := Lib.hid (fun w' => unres_any (Lib.hid ukey_any) t d w' (by omega) hd)
 obtain ⟨ST, hST⟩ : ∃ S, s ++ t = S := ⟨_, rfl⟩
 have hSTL : ST.data.toList = s.data.toList ++ t.data.toList := by rw [← hST]; simp
 have HS3 := Lib.hid (fun w' => unres_any (Lib.hid ukey_any) ST d w' (by rw [← hST, ByteArray.size_append]; omega) hd)
 have HST := Lib.hid hST
 rw [h1] at HS1
 clear hd hs ht hST hSTL h1
 have H1 := Lib.hid (Fx.nil w)
 have hb : Below w.heap.size w w := Below.refl _ _
 have H2 := Lib.hid (H1.out.base (hb))
 clear H1
 clear hb
 go_enter Try.func10, Try.ntmps10
 go_wp2_with fail
 refine (first10 w).mono ?_; rintro e w1 ⟨rfl, hb⟩
 have H3 := Lib.hid (H2.out.below hb)
 clear hb H2
 go_wp2_with fail
 refine (HS1.out w1).mono ?_; rintro e w2 ⟨hb, v1, q1, rfl, _, hew⟩
 obtain ⟨T1, y1, rfl⟩ := hew.iface
 clear hew
 unfold rszero
 have H4 := Lib.hid (H3.out.below hb)
 clear hb H3
 go_wp2_with fail
 obtain ⟨bl1, hbl⟩ : ∃ b, w2.heap.size = b := ⟨_, rfl⟩
 obtain ⟨W3, hW⟩ : ∃ W, w2.alloc (.cells #[.slice none 0 0, .int .u32 0, .string ⟨#[]⟩] 40) = W := ⟨_, rfl⟩
 have hb : Below w2.heap.size w2 W3 := by rw [← hW]; exact below_new _ _
 have hr : W3.heap[bl1]? = some (.cells #[.slice none 0 0, .int .u32 0, .string ⟨#[]⟩] 40 (0, 0)) := by rw [← hW, ← hbl]; exact new_row _ _ _
 rw [hW, hbl]
 clear hW hbl
 have H5 := Lib.hid (H4.out.below hb)
 clear hb H4
 have H6 := Lib.hid (H5.out.row (hr))
 clear H5
 clear hr
 refine (HS2.out W3).mono ?_; intro e w4 hpost
 obtain ⟨hb, lo2, ln2, lc2, m2, U2, v2, rfl⟩ := rs_form hpost
 clear hpost
 have H7 := Lib.hid (H6.out.below hb)
 clear hb H6
 go_wp2_with fail
 obtain ⟨bl2, hbl⟩ : ∃ b, w4.heap.size = b := ⟨_, rfl⟩
 obtain ⟨W5, hW⟩ : ∃ W, w4.alloc (.cells #[.slice lo2 ln2 lc2, .int .u32 m2, .string U2] 40) = W := ⟨_, rfl⟩
 have hb : Below w4.heap.size w4 W5 := by rw [← hW]; exact below_new _ _
 have hr : W5.heap[bl2]? = some (.cells #[.slice lo2 ln2 lc2, .int .u32 m2, .string U2] 40 (0, 0)) := by rw [← hW, ← hbl]; exact new_row _ _ _
 rw [hW, hbl]
 clear hW hbl
 have H8 := Lib.hid (H7.out.below hb)
 clear hb H7
 have H9 := Lib.hid (H8.out.row (hr))
 clear H8
 clear hr
 rw [HST.out]
 refine (HS3.out W5).mono ?_; intro e w6 hpost
 obtain ⟨hb, lo3, ln3, lc3, m3, U3, v3, rfl⟩ := rs_form hpost
 clear hpost
 have H10 := Lib.hid (H9.out.below hb)
 clear hb H9
 go_wp2_with fail
 obtain ⟨bl3, hbl⟩ : ∃ b, w6.heap.size = b := ⟨_, rfl⟩
 obtain ⟨W7, hW⟩ : ∃ W, w6.alloc (.cells #[.slice lo3 ln3 lc3, .int .u32 m3, .string U3] 40) = W := ⟨_, rfl⟩
 have hb : Below w6.heap.size w6 W7 := by rw [← hW]; exact below_new _ _
 have hr : W7.heap[bl3]? = some (.cells #[.slice lo3 ln3 lc3, .int .u32 m3, .string U3] 40 (0, 0)) := by rw [← hW, ← hbl]; exact new_row _ _ _
 rw [hW, hbl]
 clear hW hbl
 have H11 := Lib.hid (H10.out.below hb)
 clear hb H10
 have H12 := Lib.hid (H11.out.row (hr))
 clear H11
 clear hr
 refine (first10 W7).mono ?_; rintro e w8 ⟨rfl, hb⟩
 have H13 := Lib.hid (H12.out.below hb)
 clear hb H12
 go_wp2_with fail
 go_ret
 exact ⟨rfl, H13.out.is.2.2.2.1⟩
set_option maxRecDepth 1000000 in
set_option maxHeartbeats 8000000 in
theorem rsjoin_B (s t : ByteArray) (d : Int) (w : World) (hd : -9223372036854775808 ≤ d ∧ d ≤ 9223372036854775807) (hs : s.size ≤ 3000) (ht : t.size ≤ 3000) {x : (List KV × Nat) × List UInt8} {c : Nat} (h1 : rsrd s.data.toList d = .ok x) (h2 : rsrd t.data.toList d = .error c) :
 Calls Try.prog 10 #[.string s, .string t, .int .i64 d] w fun e w' => e = .returned (.bool true) ∧ Below w.heap.size w w' := by
 have q0 : decide ((3000 : Int) < (s.size : Int)) = false := decide_eq_false (by omega)
 have q1 : decide ((3000 : Int) < (t.size : Int)) = false := decide_eq_false (by omega)
 have q2 : ¬ 9223372036854775807 < s.size + t.size := by omega
 have HS1 := Lib.hid (fun w' => unres_any (Lib.hid ukey_any) s d w' (by omega) hd)
 have HS2 := Lib.hid (fun w' => unres_any (Lib.hid ukey_any) t d w' (by omega) hd)
 obtain ⟨ST, hST⟩ : ∃ S, s ++ t = S := ⟨_, rfl⟩
 have hSTL : ST.data.toList = s.data.toList ++ t.data.toList := by rw [← hST]; simp
 have HS3 := Lib.hid (fun w' => unres_any (Lib.hid ukey_any) ST d w' (by rw [← hST, ByteArray.size_append]; omega) hd)
 have HST := Lib.hid hST
 rw [h1] at HS1
 rw [h2] at HS2
 obtain ⟨⟨l1, n1⟩, u1⟩ := x
 clear hd hs ht hST hSTL h1 h2
 have H1 := Lib.hid (Fx.nil w)
 have hb : Below w.heap.size w w := Below.refl _ _
 have H2 := Lib.hid (H1.out.base (hb))
 clear H1
 clear hb
 go_enter Try.func10, Try.ntmps10
 go_wp2_with fail
 refine (first10 w).mono ?_; rintro e w1 ⟨rfl, hb⟩
 have H3 := Lib.hid (H2.out.below hb)
 clear hb H2
 go_wp2_with fail
 refine (HS1.out w1).mono ?_; rintro e w2 ⟨hb, cs, rfl, lo1, lc1, rfl, _⟩
 obtain ⟨U1, hU1⟩ : ∃ U : ByteArray, (⟨u1.toArray⟩ : ByteArray) = U := ⟨_, rfl⟩
 dsimp only [strV]
 rw [hU1]
 have HU1 := Lib.hid hU1
 clear hU1
 have H4 := Lib.hid (H3.out.below hb)
 clear hb H3
 go_wp2_with fail
 obtain ⟨bl1, hbl⟩ : ∃ b, w2.heap.size = b := ⟨_, rfl⟩
 obtain ⟨W3, hW⟩ : ∃ W, w2.alloc (.cells #[.slice lo1 l1.length lc1, .int .u32 (n1 : Int), .string U1] 40) = W := ⟨_, rfl⟩
 have hb : Below w2.heap.size w2 W3 := by rw [← hW]; exact below_new _ _
 have hr : W3.heap[bl1]? = some (.cells #[.slice lo1 l1.length lc1, .int .u32 (n1 : Int), .string U1] 40 (0, 0)) := by rw [← hW, ← hbl]; exact new_row _ _ _
 rw [hW, hbl]
 clear hW hbl
 have H5 := Lib.hid (H4.out.below hb)
 clear hb H4
 have H6 := Lib.hid (H5.out.row (hr))
 clear H5
 clear hr
 refine (HS2.out W3).mono ?_; rintro e w4 ⟨hb, v2, q2, rfl, _, hew⟩
 obtain ⟨T2, y2, rfl⟩ := hew.iface
 clear hew
 unfold rszero
 have H7 := Lib.hid (H6.out.below hb)
 clear hb H6
 go_wp2_with fail
 obtain ⟨bl2, hbl⟩ : ∃ b, w4.heap.size = b := ⟨_, rfl⟩
 obtain ⟨W5, hW⟩ : ∃ W, w4.alloc (.cells #[.slice none 0 0, .int .u32 0, .string ⟨#[]⟩] 40) = W := ⟨_, rfl⟩
 have hb : Below w4.heap.size w4 W5 := by rw [← hW]; exact below_new _ _
 have hr : W5.heap[bl2]? = some (.cells #[.slice none 0 0, .int .u32 0, .string ⟨#[]⟩] 40 (0, 0)) := by rw [← hW, ← hbl]; exact new_row _ _ _
 rw [hW, hbl]
 clear hW hbl
 have H8 := Lib.hid (H7.out.below hb)
 clear hb H7
 have H9 := Lib.hid (H8.out.row (hr))
 clear H8
 clear hr
 rw [HST.out]
 refine (HS3.out W5).mono ?_; intro e w6 hpost
 obtain ⟨hb, lo3, ln3, lc3, m3, U3, v3, rfl⟩ := rs_form hpost
 clear hpost
 have H10 := Lib.hid (H9.out.below hb)
 clear hb H9
 go_wp2_with fail
 obtain ⟨bl3, hbl⟩ : ∃ b, w6.heap.size = b := ⟨_, rfl⟩
 obtain ⟨W7, hW⟩ : ∃ W, w6.alloc (.cells #[.slice lo3 ln3 lc3, .int .u32 m3, .string U3] 40) = W := ⟨_, rfl⟩
 have hb : Below w6.heap.size w6 W7 := by rw [← hW]; exact below_new _ _
 have hr : W7.heap[bl3]? = some (.cells #[.slice lo3 ln3 lc3, .int .u32 m3, .string U3] 40 (0, 0)) := by rw [← hW, ← hbl]; exact new_row _ _ _
 rw [hW, hbl]
 clear hW hbl
 have H11 := Lib.hid (H10.out.below hb)
 clear hb H10
 have H12 := Lib.hid (H11.out.row (hr))
 clear H11
 clear hr
 refine (first10 W7).mono ?_; rintro e w8 ⟨rfl, hb⟩
 have H13 := Lib.hid (H12.out.below hb)
 clear hb H12
 go_wp2_with fail
 go_ret
 exact ⟨rfl, H13.out.is.2.2.2.1⟩
set_option maxRecDepth 1000000 in
set_option maxHeartbeats 8000000 in
theorem rsjoin_C (s t : ByteArray) (d : Int) (w : World) (hd : -9223372036854775808 ≤ d ∧ d ≤ 9223372036854775807) (hs : s.size ≤ 3000) (ht : t.size ≤ 3000) {x y : (List KV × Nat) × List UInt8} (h1 : rsrd s.data.toList d = .ok x) (h2 : rsrd t.data.toList d = .ok y) :
 Calls Try.prog 10 #[.string s, .string t, .int .i64 d] w fun e w' => e = .returned (.bool true) ∧ Below w.heap.size w w' := by
 have q0 : decide ((3000 : Int) < (s.size : Int)) = false := decide_eq_false (by omega)
 have q1 : decide ((3000 : Int) < (t.size : Int)) = false := decide_eq_false (by omega)
 have q2 : ¬ 9223372036854775807 < s.size + t.size := by omega
 have HS1 := Lib.hid (fun w' => unres_any (Lib.hid ukey_any) s d w' (by omega) hd)
 have HS2 := Lib.hid (fun w' => unres_any (Lib.hid ukey_any) t d w' (by omega) hd)
 obtain ⟨ST, hST⟩ : ∃ S, s ++ t = S := ⟨_, rfl⟩
 have hSTL : ST.data.toList = s.data.toList ++ t.data.toList := by rw [← hST]; simp
 have HS3 := Lib.hid (fun w' => unres_any (Lib.hid ukey_any) ST d w' (by rw [← hST, ByteArray.size_append]; omega) hd)
 have HST := Lib.hid hST
 rw [h1] at HS1
 rw [h2] at HS2
 obtain ⟨⟨l1, n1⟩, u1⟩ := x
 obtain ⟨⟨l2, n2⟩, u2⟩ := y
 obtain ⟨l3, n3, h3, hlen⟩ := rs_join h1 h2
 rw [hSTL, h3] at HS3
 have hu1 := mread_unk h1
 have hu2 := mread_unk h2
 have hf1 := (rs_twice (by simp; omega) h1).2.2.2
 have hf2 := (rs_twice (by simp; omega) h2).2.2.2
 dsimp only at hf1 hf2
 have hk1 := ksw_len l1
 have hk2 := ksw_len l2
 have q3 : IntKind.i64.wrap ((l1.length : Int) + (l2.length : Int)) = (l1.length : Int) + (l2.length : Int) := i64_wrap_id (by omega) (by omega)
 have q4 : ((l3.length : Int) == (l1.length : Int) + (l2.length : Int)) = true := by rw [beq_iff_eq, hlen]; omega
 have hsz1 : s.data.toList.length = s.size := by simp
 have hsz2 : t.data.toList.length = t.size := by simp
 have HLU := Lib.hid (And.intro (show u1.length ≤ 3000 by omega) (show u2.length ≤ 3000 by omega))
 clear hu1 hu2 hf1 hf2 hk1 hk2 hlen hsz1 hsz2 h3
 clear hd hs ht hST hSTL h1 h2
 have H1 := Lib.hid (Fx.nil w)
 have hb : Below w.heap.size w w := Below.refl _ _
 have H2 := Lib.hid (H1.out.base (hb))
 clear H1
 clear hb
 go_enter Try.func10, Try.ntmps10
 go_wp2_with fail
 refine (first10 w).mono ?_; rintro e w1 ⟨rfl, hb⟩
 have H3 := Lib.hid (H2.out.below hb)
 clear hb H2
 go_wp2_with fail
 refine (HS1.out w1).mono ?_; rintro e w2 ⟨hb, cs, rfl, lo1, lc1, rfl, _⟩
 obtain ⟨U1, hU1⟩ : ∃ U : ByteArray, (⟨u1.toArray⟩ : ByteArray) = U := ⟨_, rfl⟩
 dsimp only [strV]
 rw [hU1]
 have HU1 := Lib.hid hU1
 clear hU1
 have H4 := Lib.hid (H3.out.below hb)
 clear hb H3
 go_wp2_with fail
 obtain ⟨bl1, hbl⟩ : ∃ b, w2.heap.size = b := ⟨_, rfl⟩
 obtain ⟨W3, hW⟩ : ∃ W, w2.alloc (.cells #[.slice lo1 l1.length lc1, .int .u32 (n1 : Int), .string U1] 40) = W := ⟨_, rfl⟩
 have hb : Below w2.heap.size w2 W3 := by rw [← hW]; exact below_new _ _
 have hr : W3.heap[bl1]? = some (.cells #[.slice lo1 l1.length lc1, .int .u32 (n1 : Int), .string U1] 40 (0, 0)) := by rw [← hW, ← hbl]; exact new_row _ _ _
 rw [hW, hbl]
 clear hW hbl
 have H5 := Lib.hid (H4.out.below hb)
 clear hb H4
 have H6 := Lib.hid (H5.out.row (hr))
 clear H5
 clear hr
 refine (HS2.out W3).mono ?_; rintro e w4 ⟨hb, cs, rfl, lo2, lc2, rfl, _⟩
 obtain ⟨U2, hU2⟩ : ∃ U : ByteArray, (⟨u2.toArray⟩ : ByteArray) = U := ⟨_, rfl⟩
 dsimp only [strV]
 rw [hU2]
 have HU2 := Lib.hid hU2
 clear hU2
 have H7 := Lib.hid (H6.out.below hb)
 clear hb H6
 go_wp2_with fail
 obtain ⟨bl2, hbl⟩ : ∃ b, w4.heap.size = b := ⟨_, rfl⟩
 obtain ⟨W5, hW⟩ : ∃ W, w4.alloc (.cells #[.slice lo2 l2.length lc2, .int .u32 (n2 : Int), .string U2] 40) = W := ⟨_, rfl⟩
 have hb : Below w4.heap.size w4 W5 := by rw [← hW]; exact below_new _ _
 have hr : W5.heap[bl2]? = some (.cells #[.slice lo2 l2.length lc2, .int .u32 (n2 : Int), .string U2] 40 (0, 0)) := by rw [← hW, ← hbl]; exact new_row _ _ _
 rw [hW, hbl]
 clear hW hbl
 have H8 := Lib.hid (H7.out.below hb)
 clear hb H7
 have H9 := Lib.hid (H8.out.row (hr))
 clear H8
 clear hr
 rw [HST.out]
 refine (HS3.out W5).mono ?_; rintro e w6 ⟨hb, cs, rfl, lo3, lc3, rfl, _⟩
 obtain ⟨U3, hU3⟩ : ∃ U : ByteArray, (⟨(u1 ++ u2).toArray⟩ : ByteArray) = U := ⟨_, rfl⟩
 dsimp only [strV]
 rw [hU3]
 have HU3 := Lib.hid hU3
 clear hU3
 have H10 := Lib.hid (H9.out.below hb)
 clear hb H9
 go_wp2_with fail
 obtain ⟨bl3, hbl⟩ : ∃ b, w6.heap.size = b := ⟨_, rfl⟩
 obtain ⟨W7, hW⟩ : ∃ W, w6.alloc (.cells #[.slice lo3 l3.length lc3, .int .u32 (n3 : Int), .string U3] 40) = W := ⟨_, rfl⟩
 have hb : Below w6.heap.size w6 W7 := by rw [← hW]; exact below_new _ _
 have hr : W7.heap[bl3]? = some (.cells #[.slice lo3 l3.length lc3, .int .u32 (n3 : Int), .string U3] 40 (0, 0)) := by rw [← hW, ← hbl]; exact new_row _ _ _
 rw [hW, hbl]
 clear hW hbl
 have H11 := Lib.hid (H10.out.below hb)
 clear hb H10
 have H12 := Lib.hid (H11.out.row (hr))
 clear H11
 clear hr
 refine (first10 W7).mono ?_; rintro e w8 ⟨rfl, hb⟩
 have H13 := Lib.hid (H12.out.below hb)
 clear hb H12
 obtain rfl : U1 ++ U2 = U3 := by rw [← HU1.out, ← HU2.out, ← HU3.out]; exact ByteArray.ext (Array.ext' (by simp))
 have q5 : ¬ 9223372036854775807 < U1.size + U2.size := by
  have e1 : U1.size = u1.length := by rw [← HU1.out]; simp [ByteArray.size]
  have e2 : U2.size = u2.length := by rw [← HU2.out]; simp [ByteArray.size]
  have := HLU.out
  omega
 obtain ⟨xa0, xa1, xa2⟩ := row3 (H13.out.is.2.2.1)
 obtain ⟨xb0, xb1, xb2⟩ := row3 (H13.out.is.2.1)
 obtain ⟨xc0, xc1, xc2⟩ := row3 (H13.out.is.1)
 go_wp2_with fail
 go_ret
 exact ⟨rfl, H13.out.is.2.2.2.1⟩
set_option maxRecDepth 1000000 in
set_option maxHeartbeats 8000000 in
theorem rsjoin_any (s t : ByteArray) (d : Int) (w : World) (hd : -9223372036854775808 ≤ d ∧ d ≤ 9223372036854775807) :
 Calls Try.prog 10 #[.string s, .string t, .int .i64 d] w fun e w' => e = .returned (.bool true) ∧ Below w.heap.size w w' := by
 by_cases hs : 3000 < s.size
 ·exact rsjoin_long1 s t d w hs
 by_cases ht : 3000 < t.size
 ·exact rsjoin_long2 s t d w hs ht
 cases h1 : rsrd s.data.toList d with
 | error c => exact rsjoin_A s t d w hd (by omega) (by omega) h1
 | ok x => cases h2 : rsrd t.data.toList d with
  | error c => exact rsjoin_B s t d w hd (by omega) (by omega) h1 h2
  | ok y => exact rsjoin_C s t d w hd (by omega) (by omega) h1 h2
set_option maxRecDepth 1000000 in
set_option maxHeartbeats 8000000 in
theorem scjoin_long1 (s t : ByteArray) (d : Int) (w : World) (hs : 3000 < s.size) :
 Calls Try.prog 6 #[.string s, .string t, .int .i64 d] w fun e w' => e = .returned (.bool true) ∧ Below w.heap.size w w' := by
 have q0 : decide ((3000 : Int) < (s.size : Int)) = true := decide_eq_true (by omega)
 clear hs
 have H1 := Lib.hid (Fx.nil w)
 have hb : Below w.heap.size w w := Below.refl _ _
 have H2 := Lib.hid (H1.out.base (hb))
 clear H1
 clear hb
 go_enter Try.func6, Try.ntmps6
 go_wp2_with fail
 refine (first10 w).mono ?_; rintro e w1 ⟨rfl, hb⟩
 have H3 := Lib.hid (H2.out.below hb)
 clear hb H2
 go_wp2_with fail
 refine (first10 w1).mono ?_; rintro e w2 ⟨rfl, hb⟩
 have H4 := Lib.hid (H3.out.below hb)
 clear hb H3
 go_wp2_with fail
 go_ret
 exact ⟨rfl, H4.out.is.1⟩
set_option maxRecDepth 1000000 in
set_option maxHeartbeats 8000000 in
theorem scjoin_long2 (s t : ByteArray) (d : Int) (w : World) (hs : ¬ 3000 < s.size) (ht : 3000 < t.size) :
 Calls Try.prog 6 #[.string s, .string t, .int .i64 d] w fun e w' => e = .returned (.bool true) ∧ Below w.heap.size w w' := by
 have q0 : decide ((3000 : Int) < (s.size : Int)) = false := decide_eq_false (by omega)
 have q1 : decide ((3000 : Int) < (t.size : Int)) = true := decide_eq_true (by omega)
 clear hs ht
 have H1 := Lib.hid (Fx.nil w)
 have hb : Below w.heap.size w w := Below.refl _ _
 have H2 := Lib.hid (H1.out.base (hb))
 clear H1
 clear hb
 go_enter Try.func6, Try.ntmps6
 go_wp2_with fail
 refine (first10 w).mono ?_; rintro e w1 ⟨rfl, hb⟩
 have H3 := Lib.hid (H2.out.below hb)
 clear hb H2
 go_wp2_with fail
 refine (first10 w1).mono ?_; rintro e w2 ⟨rfl, hb⟩
 have H4 := Lib.hid (H3.out.below hb)
 clear hb H3
 go_wp2_with fail
 go_ret
 exact ⟨rfl, H4.out.is.1⟩
set_option maxRecDepth 1000000 in
set_option maxHeartbeats 8000000 in
theorem scjoin_A (s t : ByteArray) (d : Int) (w : World) (hd : -9223372036854775808 ≤ d ∧ d ≤ 9223372036854775807) (hs : s.size ≤ 3000) (ht : t.size ≤ 3000) {c : Nat} (h1 : scrd s.data.toList d = .error c) :
 Calls Try.prog 6 #[.string s, .string t, .int .i64 d] w fun e w' => e = .returned (.bool true) ∧ Below w.heap.size w w' := by
 have q0 : decide ((3000 : Int) < (s.size : Int)) = false := decide_eq_false (by omega)
 have q1 : decide ((3000 : Int) < (t.size : Int)) = false := decide_eq_false (by omega)
 have q2 : ¬ 9223372036854775807 < s.size + t.size := by omega
 have HS1 := Lib.hid (fun w' => unsc_any (Lib.hid ukey_any) s d w' (by omega) hd)
 have HS2 := Lib.hid (fun w' => unsc_any (Lib.hid ukey_any) t d w' (by omega) hd)
 obtain ⟨ST, hST⟩ : ∃ S, s ++ t = S := ⟨_, rfl⟩
 have hSTL : ST.data.toList = s.data.toList ++ t.data.toList := by rw [← hST]; simp
 have HS3 := Lib.hid (fun w' => unsc_any (Lib.hid ukey_any) ST d w' (by rw [← hST, ByteArray.size_append]; omega) hd)
 have HST := Lib.hid hST
 rw [h1] at HS1
 clear hd hs ht hST hSTL h1
 have H1 := Lib.hid (Fx.nil w)
 have hb : Below w.heap.size w w := Below.refl _ _
 have H2 := Lib.hid (H1.out.base (hb))
 clear H1
 clear hb
 go_enter Try.func6, Try.ntmps6
 go_wp2_with fail
 refine (first10 w).mono ?_; rintro e w1 ⟨rfl, hb⟩
 have H3 := Lib.hid (H2.out.below hb)
 clear hb H2
 go_wp2_with fail
 refine (HS1.out w1).mono ?_; rintro e w2 ⟨hb, v1, q1, rfl, _, hew⟩
 obtain ⟨T1, y1, rfl⟩ := hew.iface
 clear hew
 unfold sczero
 have H4 := Lib.hid (H3.out.below hb)
 clear hb H3
 go_wp2_with fail
 obtain ⟨bl1, hbl⟩ : ∃ b, w2.heap.size = b := ⟨_, rfl⟩
 obtain ⟨W3, hW⟩ : ∃ W, w2.alloc (.cells #[.string ⟨#[]⟩, .string ⟨#[]⟩, .slice none 0 0, .int .u32 0, .string ⟨#[]⟩] 25) = W := ⟨_, rfl⟩
 have hb : Below w2.heap.size w2 W3 := by rw [← hW]; exact below_new _ _
 have hr : W3.heap[bl1]? = some (.cells #[.string ⟨#[]⟩, .string ⟨#[]⟩, .slice none 0 0, .int .u32 0, .string ⟨#[]⟩] 25 (0, 0)) := by rw [← hW, ← hbl]; exact new_row _ _ _
 rw [hW, hbl]
 clear hW hbl
 have H5 := Lib.hid (H4.out.below hb)
 clear hb H4
 have H6 := Lib.hid (H5.out.row (hr))
 clear H5
 clear hr
 refine (HS2.out W3).mono ?_; intro e w4 hpost
 obtain ⟨hb, A2, B2, lo2, ln2, lc2, m2, U2, v2, rfl⟩ := sc_form hpost
 clear hpost
 have H7 := Lib.hid (H6.out.below hb)
 clear hb H6
 go_wp2_with fail
 obtain ⟨bl2, hbl⟩ : ∃ b, w4.heap.size = b := ⟨_, rfl⟩
 obtain ⟨W5, hW⟩ : ∃ W, w4.alloc (.cells #[.string A2, .string B2, .slice lo2 ln2 lc2, .int .u32 m2, .string U2] 25) = W := ⟨_, rfl⟩
 have hb : Below w4.heap.size w4 W5 := by rw [← hW]; exact below_new _ _
 have hr : W5.heap[bl2]? = some (.cells #[.string A2, .string B2, .slice lo2 ln2 lc2, .int .u32 m2, .string U2] 25 (0, 0)) := by rw [← hW, ← hbl]; exact new_row _ _ _
 rw [hW, hbl]
 clear hW hbl
 have H8 := Lib.hid (H7.out.below hb)
 clear hb H7
 have H9 := Lib.hid (H8.out.row (hr))
 clear H8
 clear hr
 rw [HST.out]
 refine (HS3.out W5).mono ?_; intro e w6 hpost
 obtain ⟨hb, A3, B3, lo3, ln3, lc3, m3, U3, v3, rfl⟩ := sc_form hpost
 clear hpost
 have H10 := Lib.hid (H9.out.below hb)
 clear hb H9
 go_wp2_with fail
 obtain ⟨bl3, hbl⟩ : ∃ b, w6.heap.size = b := ⟨_, rfl⟩
 obtain ⟨W7, hW⟩ : ∃ W, w6.alloc (.cells #[.string A3, .string B3, .slice lo3 ln3 lc3, .int .u32 m3, .string U3] 25) = W := ⟨_, rfl⟩
 have hb : Below w6.heap.size w6 W7 := by rw [← hW]; exact below_new _ _
 have hr : W7.heap[bl3]? = some (.cells #[.string A3, .string B3, .slice lo3 ln3 lc3, .int .u32 m3, .string U3] 25 (0, 0)) := by rw [← hW, ← hbl]; exact new_row _ _ _
 rw [hW, hbl]
 clear hW hbl
 have H11 := Lib.hid (H10.out.below hb)
 clear hb H10
 have H12 := Lib.hid (H11.out.row (hr))
 clear H11
 clear hr
 refine (first10 W7).mono ?_; rintro e w8 ⟨rfl, hb⟩
 have H13 := Lib.hid (H12.out.below hb)
 clear hb H12
 go_wp2_with fail
 go_ret
 exact ⟨rfl, H13.out.is.2.2.2.1⟩
set_option maxRecDepth 1000000 in
set_option maxHeartbeats 8000000 in
theorem scjoin_B (s t : ByteArray) (d : Int) (w : World) (hd : -9223372036854775808 ≤ d ∧ d ≤ 9223372036854775807) (hs : s.size ≤ 3000) (ht : t.size ≤ 3000) {x : (List UInt8 × List UInt8 × List KV × Nat) × List UInt8} {c : Nat} (h1 : scrd s.data.toList d = .ok x) (h2 : scrd t.data.toList d = .error c) :
 Calls Try.prog 6 #[.string s, .string t, .int .i64 d] w fun e w' => e = .returned (.bool true) ∧ Below w.heap.size w w' := by
 have q0 : decide ((3000 : Int) < (s.size : Int)) = false := decide_eq_false (by omega)
 have q1 : decide ((3000 : Int) < (t.size : Int)) = false := decide_eq_false (by omega)
 have q2 : ¬ 9223372036854775807 < s.size + t.size := by omega
 have HS1 := Lib.hid (fun w' => unsc_any (Lib.hid ukey_any) s d w' (by omega) hd)
 have HS2 := Lib.hid (fun w' => unsc_any (Lib.hid ukey_any) t d w' (by omega) hd)
 obtain ⟨ST, hST⟩ : ∃ S, s ++ t = S := ⟨_, rfl⟩
 have hSTL : ST.data.toList = s.data.toList ++ t.data.toList := by rw [← hST]; simp
 have HS3 := Lib.hid (fun w' => unsc_any (Lib.hid ukey_any) ST d w' (by rw [← hST, ByteArray.size_append]; omega) hd)
 have HST := Lib.hid hST
 rw [h1] at HS1
 rw [h2] at HS2
 obtain ⟨⟨a1, b1, l1, n1⟩, u1⟩ := x
 clear hd hs ht hST hSTL h1 h2
 have H1 := Lib.hid (Fx.nil w)
 have hb : Below w.heap.size w w := Below.refl _ _
 have H2 := Lib.hid (H1.out.base (hb))
 clear H1
 clear hb
 go_enter Try.func6, Try.ntmps6
 go_wp2_with fail
 refine (first10 w).mono ?_; rintro e w1 ⟨rfl, hb⟩
 have H3 := Lib.hid (H2.out.below hb)
 clear hb H2
 go_wp2_with fail
 refine (HS1.out w1).mono ?_; rintro e w2 ⟨hb, cs, rfl, lo1, lc1, rfl, _⟩
 obtain ⟨U1, hU1⟩ : ∃ U : ByteArray, (⟨u1.toArray⟩ : ByteArray) = U := ⟨_, rfl⟩
 obtain ⟨A1, hA1⟩ : ∃ U : ByteArray, (⟨a1.toArray⟩ : ByteArray) = U := ⟨_, rfl⟩
 obtain ⟨B1, hB1⟩ : ∃ U : ByteArray, (⟨b1.toArray⟩ : ByteArray) = U := ⟨_, rfl⟩
 dsimp only [strV]
 rw [hU1, hA1, hB1]
 have HU1 := Lib.hid hU1
 clear hU1 hA1 hB1
 have H4 := Lib.hid (H3.out.below hb)
 clear hb H3
 go_wp2_with fail
 obtain ⟨bl1, hbl⟩ : ∃ b, w2.heap.size = b := ⟨_, rfl⟩
 obtain ⟨W3, hW⟩ : ∃ W, w2.alloc (.cells #[.string A1, .string B1, .slice lo1 l1.length lc1, .int .u32 (n1 : Int), .string U1] 25) = W := ⟨_, rfl⟩
 have hb : Below w2.heap.size w2 W3 := by rw [← hW]; exact below_new _ _
 have hr : W3.heap[bl1]? = some (.cells #[.string A1, .string B1, .slice lo1 l1.length lc1, .int .u32 (n1 : Int), .string U1] 25 (0, 0)) := by rw [← hW, ← hbl]; exact new_row _ _ _
 rw [hW, hbl]
 clear hW hbl
 have H5 := Lib.hid (H4.out.below hb)
 clear hb H4
 have H6 := Lib.hid (H5.out.row (hr))
 clear H5
 clear hr
 refine (HS2.out W3).mono ?_; rintro e w4 ⟨hb, v2, q2, rfl, _, hew⟩
 obtain ⟨T2, y2, rfl⟩ := hew.iface
 clear hew
 unfold sczero
 have H7 := Lib.hid (H6.out.below hb)
 clear hb H6
 go_wp2_with fail
 obtain ⟨bl2, hbl⟩ : ∃ b, w4.heap.size = b := ⟨_, rfl⟩
 obtain ⟨W5, hW⟩ : ∃ W, w4.alloc (.cells #[.string ⟨#[]⟩, .string ⟨#[]⟩, .slice none 0 0, .int .u32 0, .string ⟨#[]⟩] 25) = W := ⟨_, rfl⟩
 have hb : Below w4.heap.size w4 W5 := by rw [← hW]; exact below_new _ _
 have hr : W5.heap[bl2]? = some (.cells #[.string ⟨#[]⟩, .string ⟨#[]⟩, .slice none 0 0, .int .u32 0, .string ⟨#[]⟩] 25 (0, 0)) := by rw [← hW, ← hbl]; exact new_row _ _ _
 rw [hW, hbl]
 clear hW hbl
 have H8 := Lib.hid (H7.out.below hb)
 clear hb H7
 have H9 := Lib.hid (H8.out.row (hr))
 clear H8
 clear hr
 rw [HST.out]
 refine (HS3.out W5).mono ?_; intro e w6 hpost
 obtain ⟨hb, A3, B3, lo3, ln3, lc3, m3, U3, v3, rfl⟩ := sc_form hpost
 clear hpost
 have H10 := Lib.hid (H9.out.below hb)
 clear hb H9
 go_wp2_with fail
 obtain ⟨bl3, hbl⟩ : ∃ b, w6.heap.size = b := ⟨_, rfl⟩
 obtain ⟨W7, hW⟩ : ∃ W, w6.alloc (.cells #[.string A3, .string B3, .slice lo3 ln3 lc3, .int .u32 m3, .string U3] 25) = W := ⟨_, rfl⟩
 have hb : Below w6.heap.size w6 W7 := by rw [← hW]; exact below_new _ _
 have hr : W7.heap[bl3]? = some (.cells #[.string A3, .string B3, .slice lo3 ln3 lc3, .int .u32 m3, .string U3] 25 (0, 0)) := by rw [← hW, ← hbl]; exact new_row _ _ _
 rw [hW, hbl]
 clear hW hbl
 have H11 := Lib.hid (H10.out.below hb)
 clear hb H10
 have H12 := Lib.hid (H11.out.row (hr))
 clear H11
 clear hr
 refine (first10 W7).mono ?_; rintro e w8 ⟨rfl, hb⟩
 have H13 := Lib.hid (H12.out.below hb)
 clear hb H12
 go_wp2_with fail
 go_ret
 exact ⟨rfl, H13.out.is.2.2.2.1⟩
set_option maxRecDepth 1000000 in
set_option maxHeartbeats 8000000 in
theorem scjoin_C (s t : ByteArray) (d : Int) (w : World) (hd : -9223372036854775808 ≤ d ∧ d ≤ 9223372036854775807) (hs : s.size ≤ 3000) (ht : t.size ≤ 3000) {x y : (List UInt8 × List UInt8 × List KV × Nat) × List UInt8} (h1 : scrd s.data.toList d = .ok x) (h2 : scrd t.data.toList d = .ok y) :
 Calls Try.prog 6 #[.string s, .string t, .int .i64 d] w fun e w' => e = .returned (.bool true) ∧ Below w.heap.size w w' := by
 have q0 : decide ((3000 : Int) < (s.size : Int)) = false := decide_eq_false (by omega)
 have q1 : decide ((3000 : Int) < (t.size : Int)) = false := decide_eq_false (by omega)
 have q2 : ¬ 9223372036854775807 < s.size + t.size := by omega
 have HS1 := Lib.hid (fun w' => unsc_any (Lib.hid ukey_any) s d w' (by omega) hd)
 have HS2 := Lib.hid (fun w' => unsc_any (Lib.hid ukey_any) t d w' (by omega) hd)
 obtain ⟨ST, hST⟩ : ∃ S, s ++ t = S := ⟨_, rfl⟩
 have hSTL : ST.data.toList = s.data.toList ++ t.data.toList := by rw [← hST]; simp
 have HS3 := Lib.hid (fun w' => unsc_any (Lib.hid ukey_any) ST d w' (by rw [← hST, ByteArray.size_append]; omega) hd)
 have HST := Lib.hid hST
 rw [h1] at HS1
 rw [h2] at HS2
 obtain ⟨⟨a1, b1, l1, n1⟩, u1⟩ := x
 obtain ⟨⟨a2, b2, l2, n2⟩, u2⟩ := y
 obtain ⟨a3, b3, l3, n3, h3, hlen⟩ := sc_join h1 h2
 rw [hSTL, h3] at HS3
 have hu1 := mread_unk h1
 have hu2 := mread_unk h2
 have hf1 := (sc_twice (by simp; omega) h1).2.2.2
 have hf2 := (sc_twice (by simp; omega) h2).2.2.2
 dsimp only at hf1 hf2
 have hk1 := ksw_len l1
 have hk2 := ksw_len l2
 have q3 : IntKind.i64.wrap ((l1.length : Int) + (l2.length : Int)) = (l1.length : Int) + (l2.length : Int) := i64_wrap_id (by omega) (by omega)
 have q4 : ((l3.length : Int) == (l1.length : Int) + (l2.length : Int)) = true := by rw [beq_iff_eq, hlen]; omega
 have hsz1 : s.data.toList.length = s.size := by simp
 have hsz2 : t.data.toList.length = t.size := by simp
 have HLU := Lib.hid (And.intro (show u1.length ≤ 3000 by omega) (show u2.length ≤ 3000 by omega))
 clear hu1 hu2 hf1 hf2 hk1 hk2 hlen hsz1 hsz2 h3
 clear hd hs ht hST hSTL h1 h2
 have H1 := Lib.hid (Fx.nil w)
 have hb : Below w.heap.size w w := Below.refl _ _
 have H2 := Lib.hid (H1.out.base (hb))
 clear H1
 clear hb
 go_enter Try.func6, Try.ntmps6
 go_wp2_with fail
 refine (first10 w).mono ?_; rintro e w1 ⟨rfl, hb⟩
 have H3 := Lib.hid (H2.out.below hb)
 clear hb H2
 go_wp2_with fail
 refine (HS1.out w1).mono ?_; rintro e w2 ⟨hb, cs, rfl, lo1, lc1, rfl, _⟩
 obtain ⟨U1, hU1⟩ : ∃ U : ByteArray, (⟨u1.toArray⟩ : ByteArray) = U := ⟨_, rfl⟩
 obtain ⟨A1, hA1⟩ : ∃ U : ByteArray, (⟨a1.toArray⟩ : ByteArray) = U := ⟨_, rfl⟩
 obtain ⟨B1, hB1⟩ : ∃ U : ByteArray, (⟨b1.toArray⟩ : ByteArray) = U := ⟨_, rfl⟩
 dsimp only [strV]
 rw [hU1, hA1, hB1]
 have HU1 := Lib.hid hU1
 clear hU1 hA1 hB1
 have H4 := Lib.hid (H3.out.below hb)
 clear hb H3
 go_wp2_with fail
 obtain ⟨bl1, hbl⟩ : ∃ b, w2.heap.size = b := ⟨_, rfl⟩
 obtain ⟨W3, hW⟩ : ∃ W, w2.alloc (.cells #[.string A1, .string B1, .slice lo1 l1.length lc1, .int .u32 (n1 : Int), .string U1] 25) = W := ⟨_, rfl⟩
 have hb : Below w2.heap.size w2 W3 := by rw [← hW]; exact below_new _ _
 have hr : W3.heap[bl1]? = some (.cells #[.string A1, .string B1, .slice lo1 l1.length lc1, .int .u32 (n1 : Int), .string U1] 25 (0, 0)) := by rw [← hW, ← hbl]; exact new_row _ _ _
 rw [hW, hbl]
 clear hW hbl
 have H5 := Lib.hid (H4.out.below hb)
 clear hb H4
 have H6 := Lib.hid (H5.out.row (hr))
 clear H5
 clear hr
 refine (HS2.out W3).mono ?_; rintro e w4 ⟨hb, cs, rfl, lo2, lc2, rfl, _⟩
 obtain ⟨U2, hU2⟩ : ∃ U : ByteArray, (⟨u2.toArray⟩ : ByteArray) = U := ⟨_, rfl⟩
 obtain ⟨A2, hA2⟩ : ∃ U : ByteArray, (⟨a2.toArray⟩ : ByteArray) = U := ⟨_, rfl⟩
 obtain ⟨B2, hB2⟩ : ∃ U : ByteArray, (⟨b2.toArray⟩ : ByteArray) = U := ⟨_, rfl⟩
 dsimp only [strV]
 rw [hU2, hA2, hB2]
 have HU2 := Lib.hid hU2
 clear hU2 hA2 hB2
 have H7 := Lib.hid (H6.out.below hb)
 clear hb H6
 go_wp2_with fail
 obtain ⟨bl2, hbl⟩ : ∃ b, w4.heap.size = b := ⟨_, rfl⟩
 obtain ⟨W5, hW⟩ : ∃ W, w4.alloc (.cells #[.string A2, .string B2, .slice lo2 l2.length lc2, .int .u32 (n2 : Int), .string U2] 25) = W := ⟨_, rfl⟩
 have hb : Below w4.heap.size w4 W5 := by rw [← hW]; exact below_new _ _
 have hr : W5.heap[bl2]? = some (.cells #[.string A2, .string B2, .slice lo2 l2.length lc2, .int .u32 (n2 : Int), .string U2] 25 (0, 0)) := by rw [← hW, ← hbl]; exact new_row _ _ _
 rw [hW, hbl]
 clear hW hbl
 have H8 := Lib.hid (H7.out.below hb)
 clear hb H7
 have H9 := Lib.hid (H8.out.row (hr))
 clear H8
 clear hr
 rw [HST.out]
 refine (HS3.out W5).mono ?_; rintro e w6 ⟨hb, cs, rfl, lo3, lc3, rfl, _⟩
 obtain ⟨U3, hU3⟩ : ∃ U : ByteArray, (⟨(u1 ++ u2).toArray⟩ : ByteArray) = U := ⟨_, rfl⟩
 obtain ⟨A3, hA3⟩ : ∃ U : ByteArray, (⟨a3.toArray⟩ : ByteArray) = U := ⟨_, rfl⟩
 obtain ⟨B3, hB3⟩ : ∃ U : ByteArray, (⟨b3.toArray⟩ : ByteArray) = U := ⟨_, rfl⟩
 dsimp only [strV]
 rw [hU3, hA3, hB3]
 have HU3 := Lib.hid hU3
 clear hU3 hA3 hB3
 have H10 := Lib.hid (H9.out.below hb)
 clear hb H9
 go_wp2_with fail
 obtain ⟨bl3, hbl⟩ : ∃ b, w6.heap.size = b := ⟨_, rfl⟩
 obtain ⟨W7, hW⟩ : ∃ W, w6.alloc (.cells #[.string A3, .string B3, .slice lo3 l3.length lc3, .int .u32 (n3 : Int), .string U3] 25) = W := ⟨_, rfl⟩
 have hb : Below w6.heap.size w6 W7 := by rw [← hW]; exact below_new _ _
 have hr : W7.heap[bl3]? = some (.cells #[.string A3, .string B3, .slice lo3 l3.length lc3, .int .u32 (n3 : Int), .string U3] 25 (0, 0)) := by rw [← hW, ← hbl]; exact new_row _ _ _
 rw [hW, hbl]
 clear hW hbl
 have H11 := Lib.hid (H10.out.below hb)
 clear hb H10
 have H12 := Lib.hid (H11.out.row (hr))
 clear H11
 clear hr
 refine (first10 W7).mono ?_; rintro e w8 ⟨rfl, hb⟩
 have H13 := Lib.hid (H12.out.below hb)
 clear hb H12
 obtain rfl : U1 ++ U2 = U3 := by rw [← HU1.out, ← HU2.out, ← HU3.out]; exact ByteArray.ext (Array.ext' (by simp))
 have q5 : ¬ 9223372036854775807 < U1.size + U2.size := by
  have e1 : U1.size = u1.length := by rw [← HU1.out]; simp [ByteArray.size]
  have e2 : U2.size = u2.length := by rw [← HU2.out]; simp [ByteArray.size]
  have := HLU.out
  omega
 obtain ⟨xa0, xa1, xa2, xa3, xa4⟩ := row5 (H13.out.is.2.2.1)
 obtain ⟨xb0, xb1, xb2, xb3, xb4⟩ := row5 (H13.out.is.2.1)
 obtain ⟨xc0, xc1, xc2, xc3, xc4⟩ := row5 (H13.out.is.1)
 go_wp2_with fail
 go_ret
 exact ⟨rfl, H13.out.is.2.2.2.1⟩
set_option maxRecDepth 1000000 in
set_option maxHeartbeats 8000000 in
theorem scjoin_any (s t : ByteArray) (d : Int) (w : World) (hd : -9223372036854775808 ≤ d ∧ d ≤ 9223372036854775807) :
 Calls Try.prog 6 #[.string s, .string t, .int .i64 d] w fun e w' => e = .returned (.bool true) ∧ Below w.heap.size w w' := by
 by_cases hs : 3000 < s.size
 ·exact scjoin_long1 s t d w hs
 by_cases ht : 3000 < t.size
 ·exact scjoin_long2 s t d w hs ht
 cases h1 : scrd s.data.toList d with
 | error c => exact scjoin_A s t d w hd (by omega) (by omega) h1
 | ok x => cases h2 : scrd t.data.toList d with
  | error c => exact scjoin_B s t d w hd (by omega) (by omega) h1 h2
  | ok y => exact scjoin_C s t d w hd (by omega) (by omega) h1 h2
end Go.Proofs.Ytbdbmkmebeemoaa
