/-
  scope.MarshalRes, Marshal, MayRes, May.
-/
import Derived.Test.YtbdbmkmebeemoaaMsgList
import Derived.Test.YtbdbmkmebeemoaaScRead
namespace Go.Proofs.Ytbdbmkmebeemoaa
open Go.RowKit

theorem mar_below {w W0 w1 w2 w3 : World} {p : Nat} {P1 : Nat → Prop} (h0 : Below w.heap.size w W0) (hp : W0.heap.size = p) (h1 : Below p W0 w1) (h2 : Upd P1 w1 w2) (hP : ∀ k, P1 k → p ≤ k) (h3 : Below w2.heap.size w2 w3) : Below w.heap.size w w3 :=
  h0.trans ((h1.trans ((h2.below (by have := h1.size; omega) (fun k _ h => hP k h)).trans (h3.mono (by have := h1.size; have := h2.size; omega)))).mono (by have := h0.size; omega))
theorem wbytesP_len (num : Nat) (h1 : 1 ≤ num) (h2 : num ≤ 536870911) (t : List UInt8) : (wbytesP num t).length ≤ 1 ∧ (wbytesP num t).flatten.length ≤ 20 + t.length := by
  unfold wbytesP
  split
  · simp
  · have e := wrec_raw (num := num) (ty := 2) h1 h2 (by omega) (vput t.length ++ t)
    have e2 : wrec (num : Int) 2 (vput t.length ++ t) = (rB num t).raw := e
    rw [e2]
    have := rB_len20 num t
    simp only [List.length_cons, List.length_nil, List.flatten_cons, List.flatten_nil, List.append_nil]
    omega
theorem wbytesP_raw (num : Nat) (h1 : 1 ≤ num) (h2 : num ≤ 536870911) (t : List UInt8) : (wbytesP num t).flatten = if t = [] then [] else (rB num t).raw := by
  unfold wbytesP
  split
  · rfl
  · have e := wrec_raw (num := num) (ty := 2) h1 h2 (by omega) (vput t.length ++ t)
    have e2 : wrec (num : Int) 2 (vput t.length ++ t) = (rB num t).raw := e
    rw [e2]
    simp
theorem u64_wrap32 {n : Nat} (h : n < 4294967296) : IntKind.u64.wrap (n : Int) = (n : Int) := by
  show ((n : Int) % 18446744073709551616) = _
  omega
def rs_may (d : Int) (x : (List KV × Nat) × List UInt8) : Bool := decide (0 ≤ d) && (kmays x.1.1 d && munkOk rsF.tk x.2 d)
def rs_out (x : (List KV × Nat) × List UInt8) : List UInt8 := kouts 1 x.1.1 ++ (if x.1.2 = 0 then [] else (rN 2 x.1.2).raw) ++ x.2
/-- little enough to be written -/
def rs_fit (x : (List KV × Nat) × List UInt8) : Prop := ksfit x.1.1 ∧ x.1.2 < 4294967296 ∧ ksw x.1.1 + x.2.length ≤ 400000
set_option maxRecDepth 1000000 in
set_option maxHeartbeats 8000000 in
theorem rs_marshal (x : (List KV × Nat) × List UInt8) (cs : List Value) (Q : Nat → Prop) (d : Int) (w : World) (hf : rs_fit x) (hr : RsRel w Q x cs) (hd : -9223372036854775808 ≤ d ∧ d ≤ 9223372036854775807) :
    Calls Try.prog 23 #[.agg cs.toArray, .int .i64 d] w (MarPost (rs_may d x) (rs_out x) w) := by
  obtain ⟨lo, lc, rfl, hr⟩ := hr
  obtain ⟨⟨l, n⟩, u⟩ := x
  have HR := Lib.hid (KRels.lt _ _ _ hr)
  have HD := Lib.hid hd
  obtain ⟨HFL, HFN, HFw⟩ := hf
  dsimp only at HFL HFN HFw
  obtain ⟨U, hU⟩ : ∃ U : ByteArray, (⟨u.toArray⟩ : ByteArray) = U := ⟨_, rfl⟩
  have HU := Lib.hid hU
  have HFK : Hid (ksw l + u.length ≤ 400000) := Lib.hid HFw
  have HFL := Lib.hid HFL
  have HM := Lib.hid (show rs_may d (((l, n), u)) = rs_may d (((l, n), u)) from rfl)
  dsimp only [strV]
  rw [hU]
  obtain ⟨mx, hmx⟩ : ∃ m, rs_may d (((l, n), u)) = m := ⟨_, rfl⟩
  obtain ⟨ox, hox⟩ : ∃ m, rs_out (((l, n), u)) = m := ⟨_, rfl⟩
  rw [hmx, hox]
  have HMX := Lib.hid hmx
  have HOX := Lib.hid hox
  obtain ⟨W0, hW0⟩ : ∃ W, w.alloc (.cells #[.slice lo l.length lc, .int .u32 (n : Int), .string U] 40) = W := ⟨_, rfl⟩
  obtain ⟨bx, hbx⟩ : ∃ bx, w.heap.size = bx := ⟨_, rfl⟩
  have HB0 : Hid (Below w.heap.size w W0) := Lib.hid (by rw [← hW0]; exact below_new _ _)
  have HX0 : Hid (W0.heap[bx]? = some (.cells #[.slice lo l.length lc, .int .u32 (n : Int), .string U] 40 (0, 0))) := Lib.hid (by rw [← hW0, ← hbx]; exact heap_alloc_new _ _)
  have HW0 := Lib.hid hW0
  have HBX := Lib.hid hbx
  have HET := Lib.hid (enters_of Try.func44 (by kernel_rfl) rfl)
  have HFN := Lib.hid HFN
  have q1 := u64_wrap32 HFN.out
  clear hW0 hbx hr hd HM hmx hox hU HFw
  go_enter Try.func23, Try.ntmps23
  go_wp2_with fail
  rw [HW0.out, HBX.out]
  refine (wmnew_any d W0).mono ?_; rintro e w1 ⟨rfl, hb1, P1, hw1, hp1⟩
  obtain ⟨p, hp⟩ : ∃ p, W0.heap.size = p := ⟨_, rfl⟩
  have hpp : bx < p := by rw [← hp]; exact row_lt HX0.out
  rw [hp] at hw1 hb1 hp1 ⊢
  have HB1 : Hid (Below p W0 w1) := Lib.hid hb1
  have HP1 : Hid (∀ k, P1 k → p ≤ k) := Lib.hid hp1
  have HPE := Lib.hid hp
  have HS := Lib.hid (WSx.start (wh_new hw1) (Below.refl _ _) ((hb1.block _ hpp).trans HX0.out) (fun h => by have := hp1 bx h; omega))
  have HR1 : Hid (KRels w1 (fun k => Q k ∧ k < w.heap.size) l lo 0) := Lib.hid (KRels.upd (Upd.of_new (S := fun _ => False) (HB0.out.trans (hb1.mono (by have := HB0.out.size; omega)))) (fun _ _ h => h) (fun _ h => h) l lo 0 HR.out)
  have HQ1 : Hid (∀ k, Q k ∧ k < w.heap.size → k < p ∧ k < w1.heap.size) := Lib.hid (fun k hk => by have := HB0.out.size; have := hb1.size; omega)
  clear hb1 hw1 hp1 hp
  have xc : w1.cell? ⟨bx, 0, none⟩ = some (.slice lo l.length lc) := HS.out.cell rfl
  go_wp2_with fail
  refine (listk_any l p d _ [] _ _ (fun k => Q k ∧ k < w.heap.size) w1 1 lo lc HFL.out (KRels.upd HS.out.so.upd (fun k hk h => by have := HP1.out k h; have := HQ1.out k hk; omega) (fun _ h => h) l lo 0 HR1.out) (fun k hk h => by have := HQ1.out k hk; rcases HS.out.so.new k h with h | h; (have := HP1.out k h; omega); omega) HS.out.so.wr (by by_cases h : d < 0; (left; simp [h]); (right; omega)) HD.out (by omega) ⟨by have := HS.out.so.len; have := HFK.out; simp only [List.nil_append]; omega, by have := HS.out.so.size; have := HFK.out; simp only [List.nil_append]; omega, by have := HFK.out; omega⟩).mono ?_; intro e w2 hpost
  obtain ⟨qs2, P2, rfl, hs⟩ := HS.out.next hpost
  have HSN := Lib.hid hs
  clear hpost hs HS xc
  have HS := HSN
  clear HSN
  have xc : w2.cell? ⟨bx, 1, none⟩ = some (.int .u32 (n : Int)) := HS.out.cell rfl
  go_wp2_with fail
  refine (wv_var 2 n HS.out.so.wr (by have := HFN.out; omega) (by omega) (by omega) (by have := HS.out.so.len; have := HFK.out; simp only [List.nil_append]; omega) (by have := HS.out.so.size; have := HFK.out; simp only [List.nil_append]; omega)).mono ?_; intro e w3 hpost
  obtain ⟨qs3, P3, rfl, hs⟩ := HS.out.next hpost
  have HSN := Lib.hid hs
  clear hpost hs HS xc
  have HS := HSN
  clear HSN
  have xc : w3.cell? ⟨bx, 2, none⟩ = some (.string U) := HS.out.cell rfl
  go_wp2_with fail
  refine (wv_rest U u rsF.tk 44 HS.out.so.wr HU.out.symm (by have := HFK.out; omega) (by have := HS.out.so.len; have := HFK.out; simp only [List.nil_append]; omega) (by have := HS.out.so.size; have := HFK.out; simp only [List.nil_append]; omega) HET.out (fun r w => rstakes_any r w)).mono ?_; intro e w4 hpost
  obtain ⟨qs4, P4, rfl, hs⟩ := HS.out.next hpost
  have HSN := Lib.hid hs
  clear hpost hs HS xc
  have HS := HSN
  clear HSN
  go_wp2_with fail
  obtain ⟨vo, P0, hwa, _⟩ := HS.out.so.wr
  have HWA := Lib.hid hwa
  have HLB := Lib.hid (And.intro HS.out.so.len HS.out.so.size)
  clear hwa
  refine (wend_any p d vo _ _ P0 _ HWA (by have := HLB.out.1; simp only [List.nil_append]; (have := HFK.out; omega)) (by have := HLB.out.2; simp only [List.nil_append]; (have := HFK.out; omega))).mono ?_; rintro e w9 ⟨hb9, hcase⟩
  have HB9 := Lib.hid (mar_below HB0.out HPE.out HB1.out HS.out.so.upd HP1.out hb9)
  have HBY := Lib.hid HS.out.so.bytes
  obtain ⟨bb, hbb⟩ : ∃ bb, (decide (d < 0) || !(((true && kmays l d) && true) && munkOk rsF.tk u d)) = bb := ⟨_, rfl⟩
  rw [hbb] at hcase HBY
  have HBB : Hid (mx = !bb) := Lib.hid (by
    rw [← HMX.out, ← hbb]
    show (decide (0 ≤ d) && (kmays l d && munkOk rsF.tk u d)) = _
    by_cases h : d < 0
    · rw [decide_eq_true h, decide_eq_false (by omega : ¬ 0 ≤ d)]; rfl
    · rw [decide_eq_false h, decide_eq_true (by omega : 0 ≤ d)]
      simp only [Bool.true_and, Bool.and_true, Bool.false_or, Bool.not_not])
  clear hb9 hbb
  cases bb with
  | true =>
    rw [if_pos rfl] at hcase
    obtain ⟨v, rfl, hec⟩ := hcase
    obtain ⟨T', y, rfl⟩ := hec.iface
    have HEC := Lib.hid hec
    clear hec
    go_wp2_with fail
    go_ret2
    refine ⟨HB9.out, ?_⟩
    rw [HBB.out, if_neg (by simp)]
    exact ⟨_, rfl, HEC.out⟩
  | false =>
    rw [if_neg (by simp)] at hcase
    subst hcase
    have hq9 := HBY.out rfl
    rw [List.nil_append, hq9]
    have hoe : ([] ++ kouts 1 l ++ (if n = 0 then [] else (rN 2 n).raw) ++ u : List UInt8) = ox := by
      rw [← HOX.out]
      unfold rs_out
      dsimp only
      rw [List.nil_append]
    rw [hoe]
    clear hoe hq9
    go_wp2_with fail
    go_ret2
    refine ⟨HB9.out, ?_⟩
    rw [HBB.out, if_pos (show (!false) = true from rfl)]
    rfl
def sc_may (d : Int) (x : (List UInt8 × List UInt8 × List KV × Nat) × List UInt8) : Bool := decide (0 ≤ d) && (((uvalid x.1.1 && uvalid x.1.2.1) && kmays x.1.2.2.1 d) && munkOk scF.tk x.2 d)
def sc_out (x : (List UInt8 × List UInt8 × List KV × Nat) × List UInt8) : List UInt8 := (if x.1.1 = [] then [] else (rB 1 x.1.1).raw) ++ (if x.1.2.1 = [] then [] else (rB 2 x.1.2.1).raw) ++ kouts 3 x.1.2.2.1 ++ (if x.1.2.2.2 = 0 then [] else (rN 4 x.1.2.2.2).raw) ++ x.2
/-- little enough to be written -/
def sc_fit (x : (List UInt8 × List UInt8 × List KV × Nat) × List UInt8) : Prop := ksfit x.1.2.2.1 ∧ x.1.2.2.2 < 4294967296 ∧ x.1.1.length + x.1.2.1.length + ksw x.1.2.2.1 + x.2.length ≤ 400000
set_option maxRecDepth 1000000 in
set_option maxHeartbeats 8000000 in
theorem sc_marshal (x : (List UInt8 × List UInt8 × List KV × Nat) × List UInt8) (cs : List Value) (Q : Nat → Prop) (d : Int) (w : World) (hf : sc_fit x) (hr : ScRel w Q x cs) (hd : -9223372036854775808 ≤ d ∧ d ≤ 9223372036854775807) :
    Calls Try.prog 17 #[.agg cs.toArray, .int .i64 d] w (MarPost (sc_may d x) (sc_out x) w) := by
  obtain ⟨lo, lc, rfl, hr⟩ := hr
  obtain ⟨⟨a, b, l, n⟩, u⟩ := x
  have HR := Lib.hid (KRels.lt _ _ _ hr)
  have HD := Lib.hid hd
  obtain ⟨HFL, HFN, HFw⟩ := hf
  dsimp only at HFL HFN HFw
  obtain ⟨U, hU⟩ : ∃ U : ByteArray, (⟨u.toArray⟩ : ByteArray) = U := ⟨_, rfl⟩
  have HU := Lib.hid hU
  have HFK : Hid (a.length + b.length + ksw l + u.length ≤ 400000) := Lib.hid HFw
  have HFL := Lib.hid HFL
  obtain ⟨A, hA⟩ : ∃ U : ByteArray, (⟨a.toArray⟩ : ByteArray) = U := ⟨_, rfl⟩
  obtain ⟨B, hB⟩ : ∃ U : ByteArray, (⟨b.toArray⟩ : ByteArray) = U := ⟨_, rfl⟩
  have HA : Hid (A.data.toList = a) := Lib.hid (by rw [← hA])
  have HBB0 : Hid (B.data.toList = b) := Lib.hid (by rw [← hB])
  have HM := Lib.hid (show sc_may d (((a, b, l, n), u)) = sc_may d (((a, b, l, n), u)) from rfl)
  dsimp only [strV]
  rw [hU, hA, hB]
  obtain ⟨mx, hmx⟩ : ∃ m, sc_may d (((a, b, l, n), u)) = m := ⟨_, rfl⟩
  obtain ⟨ox, hox⟩ : ∃ m, sc_out (((a, b, l, n), u)) = m := ⟨_, rfl⟩
  rw [hmx, hox]
  have HMX := Lib.hid hmx
  have HOX := Lib.hid hox
  obtain ⟨W0, hW0⟩ : ∃ W, w.alloc (.cells #[.string A, .string B, .slice lo l.length lc, .int .u32 (n : Int), .string U] 25) = W := ⟨_, rfl⟩
  obtain ⟨bx, hbx⟩ : ∃ bx, w.heap.size = bx := ⟨_, rfl⟩
  have HB0 : Hid (Below w.heap.size w W0) := Lib.hid (by rw [← hW0]; exact below_new _ _)
  have HX0 : Hid (W0.heap[bx]? = some (.cells #[.string A, .string B, .slice lo l.length lc, .int .u32 (n : Int), .string U] 25 (0, 0))) := Lib.hid (by rw [← hW0, ← hbx]; exact heap_alloc_new _ _)
  have HW0 := Lib.hid hW0
  have HBX := Lib.hid hbx
  have HET := Lib.hid (enters_of Try.func38 (by kernel_rfl) rfl)
  have HFN := Lib.hid HFN
  have q1 := u64_wrap32 HFN.out
  clear hW0 hbx hr hd HM hmx hox hU hA hB HFw
  go_enter Try.func17, Try.ntmps17
  go_wp2_with fail
  rw [HW0.out, HBX.out]
  refine (wmnew_any d W0).mono ?_; rintro e w1 ⟨rfl, hb1, P1, hw1, hp1⟩
  obtain ⟨p, hp⟩ : ∃ p, W0.heap.size = p := ⟨_, rfl⟩
  have hpp : bx < p := by rw [← hp]; exact row_lt HX0.out
  rw [hp] at hw1 hb1 hp1 ⊢
  have HB1 : Hid (Below p W0 w1) := Lib.hid hb1
  have HP1 : Hid (∀ k, P1 k → p ≤ k) := Lib.hid hp1
  have HPE := Lib.hid hp
  have HS := Lib.hid (WSx.start (wh_new hw1) (Below.refl _ _) ((hb1.block _ hpp).trans HX0.out) (fun h => by have := hp1 bx h; omega))
  have HR1 : Hid (KRels w1 (fun k => Q k ∧ k < w.heap.size) l lo 0) := Lib.hid (KRels.upd (Upd.of_new (S := fun _ => False) (HB0.out.trans (hb1.mono (by have := HB0.out.size; omega)))) (fun _ _ h => h) (fun _ h => h) l lo 0 HR.out)
  have HQ1 : Hid (∀ k, Q k ∧ k < w.heap.size → k < p ∧ k < w1.heap.size) := Lib.hid (fun k hk => by have := HB0.out.size; have := hb1.size; omega)
  clear hb1 hw1 hp1 hp
  have xc : w1.cell? ⟨bx, 0, none⟩ = some (.string A) := HS.out.cell rfl
  go_wp2_with fail
  refine ((wv_text 1 A a HS.out.so.wr HA.out (by omega) (by have := HFK.out; omega) (by have := HS.out.so.len; have := HFK.out; simp only [List.nil_append]; omega) (by have := HS.out.so.size; have := HFK.out; simp only [List.nil_append]; omega)).mono (fun _ _ h => h.le (l2 := 1) (f2 := 20 + a.length) (wbytesP_len 1 (by omega) (by omega) a).1 (wbytesP_len 1 (by omega) (by omega) a).2)).mono ?_; intro e w2 hpost
  obtain ⟨qs2, P2, rfl, hs⟩ := HS.out.next hpost
  have HSN := Lib.hid hs
  clear hpost hs HS xc
  have HS := HSN
  clear HSN
  have xc : w2.cell? ⟨bx, 1, none⟩ = some (.string B) := HS.out.cell rfl
  go_wp2_with fail
  refine ((wv_text 2 B b HS.out.so.wr HBB0.out (by omega) (by have := HFK.out; omega) (by have := HS.out.so.len; have := HFK.out; simp only [List.nil_append]; omega) (by have := HS.out.so.size; have := HFK.out; simp only [List.nil_append]; omega)).mono (fun _ _ h => h.le (l2 := 1) (f2 := 20 + b.length) (wbytesP_len 2 (by omega) (by omega) b).1 (wbytesP_len 2 (by omega) (by omega) b).2)).mono ?_; intro e w3 hpost
  obtain ⟨qs3, P3, rfl, hs⟩ := HS.out.next hpost
  have HSN := Lib.hid hs
  clear hpost hs HS xc
  have HS := HSN
  clear HSN
  have xc : w3.cell? ⟨bx, 2, none⟩ = some (.slice lo l.length lc) := HS.out.cell rfl
  go_wp2_with fail
  refine (listk_any l p d _ [] _ _ (fun k => Q k ∧ k < w.heap.size) w3 3 lo lc HFL.out (KRels.upd HS.out.so.upd (fun k hk h => by have := HP1.out k h; have := HQ1.out k hk; omega) (fun _ h => h) l lo 0 HR1.out) (fun k hk h => by have := HQ1.out k hk; rcases HS.out.so.new k h with h | h; (have := HP1.out k h; omega); omega) HS.out.so.wr (by by_cases h : d < 0; (left; simp [h]); (right; omega)) HD.out (by omega) ⟨by have := HS.out.so.len; have := HFK.out; simp only [List.nil_append]; omega, by have := HS.out.so.size; have := HFK.out; simp only [List.nil_append]; omega, by have := HFK.out; omega⟩).mono ?_; intro e w4 hpost
  obtain ⟨qs4, P4, rfl, hs⟩ := HS.out.next hpost
  have HSN := Lib.hid hs
  clear hpost hs HS xc
  have HS := HSN
  clear HSN
  have xc : w4.cell? ⟨bx, 3, none⟩ = some (.int .u32 (n : Int)) := HS.out.cell rfl
  go_wp2_with fail
  refine (wv_var 4 n HS.out.so.wr (by have := HFN.out; omega) (by omega) (by omega) (by have := HS.out.so.len; have := HFK.out; simp only [List.nil_append]; omega) (by have := HS.out.so.size; have := HFK.out; simp only [List.nil_append]; omega)).mono ?_; intro e w5 hpost
  obtain ⟨qs5, P5, rfl, hs⟩ := HS.out.next hpost
  have HSN := Lib.hid hs
  clear hpost hs HS xc
  have HS := HSN
  clear HSN
  have xc : w5.cell? ⟨bx, 4, none⟩ = some (.string U) := HS.out.cell rfl
  go_wp2_with fail
  refine (wv_rest U u scF.tk 38 HS.out.so.wr HU.out.symm (by have := HFK.out; omega) (by have := HS.out.so.len; have := HFK.out; simp only [List.nil_append]; omega) (by have := HS.out.so.size; have := HFK.out; simp only [List.nil_append]; omega) HET.out (fun r w => sctakes_any r w)).mono ?_; intro e w6 hpost
  obtain ⟨qs6, P6, rfl, hs⟩ := HS.out.next hpost
  have HSN := Lib.hid hs
  clear hpost hs HS xc
  have HS := HSN
  clear HSN
  go_wp2_with fail
  obtain ⟨vo, P0, hwa, _⟩ := HS.out.so.wr
  have HWA := Lib.hid hwa
  have HLB := Lib.hid (And.intro HS.out.so.len HS.out.so.size)
  clear hwa
  refine (wend_any p d vo _ _ P0 _ HWA (by have := HLB.out.1; simp only [List.nil_append]; (have := HFK.out; omega)) (by have := HLB.out.2; simp only [List.nil_append]; (have := HFK.out; omega))).mono ?_; rintro e w9 ⟨hb9, hcase⟩
  have HB9 := Lib.hid (mar_below HB0.out HPE.out HB1.out HS.out.so.upd HP1.out hb9)
  have HBY := Lib.hid HS.out.so.bytes
  obtain ⟨bb, hbb⟩ : ∃ bb, (decide (d < 0) || !(((((true && uvalid a) && uvalid b) && kmays l d) && true) && munkOk scF.tk u d)) = bb := ⟨_, rfl⟩
  rw [hbb] at hcase HBY
  have HBB : Hid (mx = !bb) := Lib.hid (by
    rw [← HMX.out, ← hbb]
    show (decide (0 ≤ d) && (((uvalid a && uvalid b) && kmays l d) && munkOk scF.tk u d)) = _
    by_cases h : d < 0
    · rw [decide_eq_true h, decide_eq_false (by omega : ¬ 0 ≤ d)]; rfl
    · rw [decide_eq_false h, decide_eq_true (by omega : 0 ≤ d)]
      simp only [Bool.true_and, Bool.and_true, Bool.false_or, Bool.not_not])
  clear hb9 hbb
  cases bb with
  | true =>
    rw [if_pos rfl] at hcase
    obtain ⟨v, rfl, hec⟩ := hcase
    obtain ⟨T', y, rfl⟩ := hec.iface
    have HEC := Lib.hid hec
    clear hec
    go_wp2_with fail
    go_ret2
    refine ⟨HB9.out, ?_⟩
    rw [HBB.out, if_neg (by simp)]
    exact ⟨_, rfl, HEC.out⟩
  | false =>
    rw [if_neg (by simp)] at hcase
    subst hcase
    have hq9 := HBY.out rfl
    rw [List.nil_append, hq9]
    have hoe : ([] ++ (wbytesP 1 a).flatten ++ (wbytesP 2 b).flatten ++ kouts 3 l ++ (if n = 0 then [] else (rN 4 n).raw) ++ u : List UInt8) = ox := by
      rw [← HOX.out]
      unfold sc_out
      dsimp only
      rw [wbytesP_raw 1 (by omega) (by omega), wbytesP_raw 2 (by omega) (by omega), List.nil_append]
    rw [hoe]
    clear hoe hq9
    go_wp2_with fail
    go_ret2
    refine ⟨HB9.out, ?_⟩
    rw [HBB.out, if_pos (show (!false) = true from rfl)]
    rfl
end Go.Proofs.Ytbdbmkmebeemoaa
