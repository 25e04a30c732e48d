/-
  number.Marshal, Size of any point; hyglaw12.first.
-/
import Derived.Test.YtjbingoliffjiaaGreatDoorNuRead
import Derived.Test.YtjbingoliffjiaaGreatDoorPartK
import Derived.Test.YtjbingoliffjiaaGreatDoorExPart
set_option maxRecDepth 1000000
set_option maxHeartbeats 16000000
namespace Go.Proofs.YtjbingoliffjiaaGreatDoor
open Go.RowKit
theorem nu_marshal_if (x : Nu) (hMl : Hid (x.1.2.2.2.1 ≠ [] → KMar)) (hMes : Hid (x.1.2.2.1.2 ≠ [] → ExMar)) (cs : List Value) (Q : Nat → Prop) (d : Int) (w : World) (hf : nu_fit x) (hr : nuCel.R w Q x cs) (hd : -9223372036854775808 ≤ d ∧ d ≤ 9223372036854775807) :
  Calls Tryz.prog 17 #[.agg cs.toArray, .int .i64 d] w (MarPost (nu_may d x) (nu_out x) w) := by
 obtain ⟨⟨a, ⟨t, ⟨⟨⟨k, n⟩, es⟩, ⟨l, f⟩⟩⟩⟩, u⟩ := x
 obtain ⟨lo, lc, eo, ec, rfl, hrl, hres⟩ := hr
 have HRl := Lib.hid (KRels.lt _ _ _ hrl)
 have HRes := Lib.hid (CRels.lt hres)
 have HD := Lib.hid hd
 obtain ⟨hna, hnt, hnn, hfes, hfl, hnf, hw⟩ := hf
 have HFK := Lib.hid hw
 have HNA := Lib.hid hna
 have HNT := Lib.hid hnt
 have HNN := Lib.hid hnn
 have HFES := Lib.hid hfes
 have HFL := Lib.hid hfl
 have HNF := Lib.hid hnf
 obtain ⟨Xu, hXu⟩ : ∃ U : ByteArray, (⟨u.toArray⟩ : ByteArray) = U := ⟨_, rfl⟩
 have HU := Lib.hid hXu
 dsimp only [strV]
 rw [hXu]
 obtain ⟨mx, hmx⟩ : ∃ m, nu_may d ((a, (t, (((k, n), es), (l, f)))), u) = m := ⟨_, rfl⟩
 obtain ⟨ox, hox⟩ : ∃ m, nu_out ((a, (t, (((k, n), es), (l, f)))), u) = m := ⟨_, rfl⟩
 rw [hmx, hox]
 have HMX := Lib.hid hmx
 have HOX := Lib.hid hox
 obtain ⟨W0, hW0⟩ : ∃ W, w.alloc (.cells #[.slice lo l.length lc, .int .u64 (a : Int), .int .u64 (t : Int), .int .i64 k, .int .u64 (n : Int), .slice eo es.length ec, .int .u32 (f : Int), .string Xu] 28) = W := ⟨_, rfl⟩
 obtain ⟨bx, hbx⟩ : ∃ bx, w.heap.size = bx := ⟨_, rfl⟩
 have HB0 : Hid (Below w.heap.size w W0) := Lib.hid (by rw [← hW0]; exact below_new _ _)
 have HX0 : Hid (W0.heap[bx]? = some (.cells #[.slice lo l.length lc, .int .u64 (a : Int), .int .u64 (t : Int), .int .i64 k, .int .u64 (n : Int), .slice eo es.length ec, .int .u32 (f : Int), .string Xu] 28 (0, 0))) := Lib.hid (by rw [← hW0, ← hbx]; exact heap_alloc_new _ _)
 have HW0 := Lib.hid hW0
 have HBX := Lib.hid hbx
 have HET := Lib.hid (enters_of Tryz.func44 (by kernel_rfl) rfl)
 clear hW0 hbx hrl hres hd hmx hox hXu hna hnt hnn hfes hfl hnf hw
 go_enter Tryz.func17, Tryz.ntmps17
 go_wp2_with fail
 rw [HW0.out, HBX.out]
 refine (wmnew_any d W0).mono ?_; rintro e wz ⟨rfl, hb1, P1, hw1, hp1⟩
 obtain ⟨p, hp⟩ : ∃ p, W0.heap.size = p := ⟨_, rfl⟩
 have hpp : bx < p := by rw [← hp]; exact row_lt HX0.out
 rw [hp] at hw1 hb1 hp1 ⊢
 have HB1 : Hid (Below p W0 wz) := Lib.hid hb1
 have HP1 : Hid (∀ k, P1 k → p ≤ k) := Lib.hid hp1
 have HPE := Lib.hid hp
 have HS := Lib.hid (WSx.start (wh_new hw1) (Below.refl _ _) ((hb1.block _ hpp).trans HX0.out) (fun h => by have := hp1 bx h; omega))
 have HR1l : Hid (KRels wz (fun k => Q k ∧ k < w.heap.size) l lo 0) := Lib.hid (KRels.upd (Upd.of_new (S := fun _ => False) (HB0.out.trans (hb1.mono (by have := HB0.out.size; omega)))) (fun _ _ h => h) (fun _ h => h) l lo 0 HRl.out)
 have HR1es : Hid (CRels exCel wz (fun k => Q k ∧ k < w.heap.size) es eo) := Lib.hid (CRels.upd (Upd.of_new (S := fun _ => False) (HB0.out.trans (hb1.mono (by have := HB0.out.size; omega)))) (fun _ _ h => h) (fun _ h => h) HRes.out)
 have HQ1 : Hid (∀ k, Q k ∧ k < w.heap.size → k < p ∧ k < wz.heap.size) := Lib.hid (fun k hk => by have := HB0.out.size; have := hb1.size; omega)
 clear hb1 hw1 hp1 hp
 have xc : wz.cell? ⟨bx, 3, none⟩ = some (.int .i64 k) := HS.out.cell rfl
 have xn : wz.cell? ⟨bx, 4, none⟩ = some (.int .u64 (n : Int)) := HS.out.cell rfl
 go_wp2_with fail
 refine (wv_kind k n (Lib.hid HS.out.so.wr)).mono ?_; intro e wz hpost
 obtain ⟨qs2, P2, rfl, hs⟩ := HS.out.next hpost
 have HSN := Lib.hid hs
 clear hpost hs HS xc xn
 have HS := HSN
 clear HSN
 have xc : wz.cell? ⟨bx, 1, none⟩ = some (.int .u64 (a : Int)) := HS.out.cell rfl
 go_wp2_with fail
 refine (wv_num 2 a HS.out.so.wr HNA.out (by omega) (by omega) (by have := HS.out.so.len; have := HFK.out; simp only [List.nil_append]; omega) (by have := HS.out.so.size; have := HFK.out; simp only [List.nil_append]; omega)).mono ?_; intro e wz hpost
 obtain ⟨qs2, P2, rfl, hs⟩ := HS.out.next hpost
 have HSN := Lib.hid hs
 clear hpost hs HS xc
 have HS := HSN
 clear HSN
 have xc : wz.cell? ⟨bx, 2, none⟩ = some (.int .u64 (t : Int)) := HS.out.cell rfl
 go_wp2_with fail
 refine (wv_num 3 t HS.out.so.wr HNT.out (by omega) (by omega) (by have := HS.out.so.len; have := HFK.out; simp only [List.nil_append]; omega) (by have := HS.out.so.size; have := HFK.out; simp only [List.nil_append]; omega)).mono ?_; intro e wz hpost
 obtain ⟨qs2, P2, rfl, hs⟩ := HS.out.next hpost
 have HSN := Lib.hid hs
 clear hpost hs HS xc
 have HS := HSN
 clear HSN
 have hkk : ((k == 1) = true ∧ (k == 2) = false) ∨ ((k == 1) = false ∧ (k == 2) = true) ∨ ((k == 1) = false ∧ (k == 2) = false) := by
   by_cases h1 : k = 1
   · subst h1; left; exact ⟨rfl, rfl⟩
   · by_cases h2 : k = 2
     · subst h2; right; left; exact ⟨rfl, rfl⟩
     · right; right; exact ⟨beq_eq_false_iff_ne.2 h1, beq_eq_false_iff_ne.2 h2⟩
 rcases hkk with ⟨c1, c2⟩ | ⟨c1, c2⟩ | ⟨c1, c2⟩
 all_goals
  have xc : wz.cell? ⟨bx, 3, none⟩ = some (.int .i64 k) := HS.out.cell rfl
  have xn : wz.cell? ⟨bx, 4, none⟩ = some (.int .u64 (n : Int)) := HS.out.cell rfl
  have xd : wz.cell? ⟨bx, 5, none⟩ = some (.slice eo es.length ec) := HS.out.cell rfl
  go_wp2_with fail
  first
  | (go_at_call 66
     refine (wfixed_any 4 n _ (by omega) (by omega) HNN.out).mono ?_; rintro e wz ⟨rfl, hbz⟩
     rw [show wrec 4 1 (eight 8 n) = (rF 4 n).raw from rF_wrec (num := 4) (by omega) (by omega) n]
     have HSN := Lib.hid (HS.out.below hbz)
     clear hbz HS xc xn xd
     have HS := HSN
     clear HSN
     go_wp2_with fail
     refine ((wv_put (rF 4 n).raw HS.out.so.wr (by have := HS.out.so.len; have := HFK.out; simp only [List.nil_append]; omega) (by have := rF_len20 4 n; have := HS.out.so.size; have := HFK.out; simp only [List.nil_append]; omega)).mono (fun _ _ h => wv_if (k = 1) (eq_of_beq c1) (h.le (Nat.le_refl _) (rF_len20 4 n)))).mono ?_; intro e wz hpost
     obtain ⟨qs2, P2, rfl, hs⟩ := HS.out.next hpost
     have HSN := Lib.hid hs
     clear hpost hs HS
     have HS := HSN
     clear HSN)
  | (have HSN := Lib.hid (HS.out.skip (k = 1) (fun h => by rw [h] at c1; simp at c1) (rF 4 n).raw 20)
     clear HS xc xn xd
     have HS := HSN
     clear HSN)
  have xc : wz.cell? ⟨bx, 5, none⟩ = some (.slice eo es.length ec) := HS.out.cell rfl
  try go_wp2_with fail
  refine (listex_if es hMes p d _ [] _ _ (fun k => Q k ∧ k < w.heap.size) wz 5 eo ec HFES.out (CRels.upd HS.out.so.upd (fun k hk h => by have := HP1.out k h; have := HQ1.out k hk; omega) (fun _ h => h) HR1es.out) (fun k hk h => by have := HQ1.out k hk; rcases HS.out.so.new k h with h | h; (have := HP1.out k h; omega); omega) HS.out.so.wr (by by_cases h : d < 0; (left; simp [h]); (right; omega)) HD.out (by omega) ⟨by have := HS.out.so.len; have := HFK.out; simp only [List.nil_append]; omega, by have := HS.out.so.size; have := HFK.out; simp only [List.nil_append]; omega, by have := HFK.out; omega⟩).mono ?_; intro e wz hpost
  obtain ⟨qs2, P2, rfl, hs⟩ := HS.out.next hpost
  have HSN := Lib.hid hs
  clear hpost hs HS xc
  have HS := HSN
  clear HSN
  have xc : wz.cell? ⟨bx, 3, none⟩ = some (.int .i64 k) := HS.out.cell rfl
  have xn : wz.cell? ⟨bx, 4, none⟩ = some (.int .u64 (n : Int)) := HS.out.cell rfl
  have xd : wz.cell? ⟨bx, 0, none⟩ = some (.slice lo l.length lc) := HS.out.cell rfl
  go_wp2_with fail
  first
  | (go_at_call 66
     refine (wfixed_any 6 n _ (by omega) (by omega) HNN.out).mono ?_; rintro e wz ⟨rfl, hbz⟩
     rw [show wrec 6 1 (eight 8 n) = (rF 6 n).raw from rF_wrec (num := 6) (by omega) (by omega) n]
     have HSN := Lib.hid (HS.out.below hbz)
     clear hbz HS xc xn xd
     have HS := HSN
     clear HSN
     go_wp2_with fail
     refine ((wv_put (rF 6 n).raw HS.out.so.wr (by have := HS.out.so.len; have := HFK.out; simp only [List.nil_append]; omega) (by have := rF_len20 6 n; have := HS.out.so.size; have := HFK.out; simp only [List.nil_append]; omega)).mono (fun _ _ h => wv_if (k = 2) (eq_of_beq c2) (h.le (Nat.le_refl _) (rF_len20 6 n)))).mono ?_; intro e wz hpost
     obtain ⟨qs2, P2, rfl, hs⟩ := HS.out.next hpost
     have HSN := Lib.hid hs
     clear hpost hs HS
     have HS := HSN
     clear HSN)
  | (have HSN := Lib.hid (HS.out.skip (k = 2) (fun h => by rw [h] at c2; simp at c2) (rF 6 n).raw 20)
     clear HS xc xn xd
     have HS := HSN
     clear HSN)
  have xc : wz.cell? ⟨bx, 0, none⟩ = some (.slice lo l.length lc) := HS.out.cell rfl
  try go_wp2_with fail
  refine (listk_if l hMl p d _ [] _ _ (fun k => Q k ∧ k < w.heap.size) wz 7 lo lc HFL.out (KRels.upd HS.out.so.upd (fun k hk h => by have := HP1.out k h; have := HQ1.out k hk; omega) (fun _ h => h) l lo 0 HR1l.out) (fun k hk h => by have := HQ1.out k hk; rcases HS.out.so.new k h with h | h; (have := HP1.out k h; omega); omega) HS.out.so.wr (by by_cases h : d < 0; (left; simp [h]); (right; omega)) HD.out (by omega) ⟨by have := HS.out.so.len; have := HFK.out; simp only [List.nil_append]; omega, by have := HS.out.so.size; have := HFK.out; simp only [List.nil_append]; omega, by have := HFK.out; omega⟩).mono ?_; intro e wz hpost
  obtain ⟨qs2, P2, rfl, hs⟩ := HS.out.next hpost
  have HSN := Lib.hid hs
  clear hpost hs HS xc
  have HS := HSN
  clear HSN
  have q1 := u64_wrap32 HNF.out
  have xc : wz.cell? ⟨bx, 6, none⟩ = some (.int .u32 (f : Int)) := HS.out.cell rfl
  go_wp2_with fail
  refine (wv_var 8 f HS.out.so.wr (by have := HNF.out; omega) (by omega) (by omega) (by have := HS.out.so.len; have := HFK.out; simp only [List.nil_append]; omega) (by have := HS.out.so.size; have := HFK.out; simp only [List.nil_append]; omega)).mono ?_; intro e wz hpost
  obtain ⟨qs2, P2, rfl, hs⟩ := HS.out.next hpost
  have HSN := Lib.hid hs
  clear hpost hs HS xc
  have HS := HSN
  clear HSN
  have xc : wz.cell? ⟨bx, 7, none⟩ = some (.string Xu) := HS.out.cell rfl
  go_wp2_with fail
  refine (wv_rest Xu u nuF.tk 44 HS.out.so.wr HU.out.symm (by have := HFK.out; omega) (by have := HS.out.so.len; have := HFK.out; simp only [List.nil_append]; omega) (by have := HS.out.so.size; have := HFK.out; simp only [List.nil_append]; omega) HET.out (fun r w => nutakes_any r w)).mono ?_; intro e wz hpost
  obtain ⟨qs2, P2, rfl, hs⟩ := HS.out.next hpost
  have HSN := Lib.hid hs
  clear hpost hs HS xc
  have HS := HSN
  clear HSN
  go_wp2_with fail
  obtain ⟨vo, P0, hwa, _⟩ := HS.out.so.wr
  have HWA := Lib.hid hwa
  have HLB := Lib.hid (And.intro HS.out.so.len HS.out.so.size)
  clear hwa
  refine (wend_any p d vo _ _ P0 _ HWA (by have := HLB.out.1; simp only [List.nil_append]; (have := HFK.out; omega)) (by have := HLB.out.2; simp only [List.nil_append]; (have := HFK.out; omega))).mono ?_; rintro e w9 ⟨hb9, hcase⟩
  have HB9 := Lib.hid (mar_below HB0.out HPE.out HB1.out HS.out.so.upd HP1.out hb9)
  have HBY := Lib.hid HS.out.so.bytes
  obtain ⟨bb, hbb⟩ : ∃ bb, (decide (d < 0) || !(((((((((true && decide (k = 0 ∧ n = 0 ∨ k = 1 ∨ k = 2)) && true) && true) && true) && lmays exSb es d) && true) && kmays l d) && true) && munkOk nuF.tk u d)) = bb := ⟨_, rfl⟩
  rw [hbb] at hcase HBY
  have HBB : Hid (mx = !bb) := Lib.hid (by
    rw [← HMX.out, ← hbb]
    show (decide (0 ≤ d) && ((decide (k = 0 ∧ n = 0 ∨ k = 1 ∨ k = 2) && (lmays exSb es d && kmays l d)) && munkOk nuF.tk u d)) = _
    by_cases h : d < 0
    · rw [decide_eq_true h, decide_eq_false (by omega : ¬ 0 ≤ d)]; rfl
    · rw [decide_eq_false h, decide_eq_true (by omega : 0 ≤ d)]
      simp only [Bool.true_and, Bool.and_true, Bool.false_or, Bool.not_not, Bool.and_assoc])
  clear hb9 hbb
  cases bb with
  | true =>
    rw [if_pos rfl] at hcase
    obtain ⟨v, rfl, hec⟩ := hcase
    obtain ⟨T', y, rfl⟩ := hec.iface
    have HEC := Lib.hid hec
    clear hec
    go_wp2_with fail
    go_ret2
    refine ⟨HB9.out, ?_⟩
    rw [HBB.out, if_neg (by simp)]
    exact ⟨_, rfl, HEC.out⟩
  | false =>
    rw [if_neg (by simp)] at hcase
    subst hcase
    have hq9 := HBY.out rfl
    rw [List.nil_append, hq9]
    have hoe : ([] ++ [] ++ (if a = 0 then [] else (rF 2 a).raw) ++ (if t = 0 then [] else (rF 3 t).raw) ++ (if k = 1 then (rF 4 n).raw else []) ++ louts exSb 5 es ++ (if k = 2 then (rF 6 n).raw else []) ++ kouts 7 l ++ (if f = 0 then [] else (rN 8 f).raw) ++ u : List UInt8) = ox := by
      rw [← HOX.out]
      show _ = (if a = 0 then [] else (rF 2 a).raw) ++ (if t = 0 then [] else (rF 3 t).raw) ++ (if k = 1 then (rF 4 n).raw else []) ++ louts exSb 5 es ++ (if k = 2 then (rF 6 n).raw else []) ++ kouts 7 l ++ (if f = 0 then [] else (rN 8 f).raw) ++ u
      simp only [List.nil_append]
    rw [hoe]
    clear hoe hq9
    go_wp2_with fail
    go_ret2
    refine ⟨HB9.out, ?_⟩
    rw [HBB.out, if_pos (show (!false) = true from rfl)]
    rfl
theorem nu_size_if (x : Nu) (hMl : Hid (x.1.2.2.2.1 ≠ [] → KMar)) (hMes : Hid (x.1.2.2.1.2 ≠ [] → ExMar)) (cs : List Value) (Q : Nat → Prop) (w : World) (hf : nu_fit x) (hr : nuCel.R w Q x cs) (hm : nu_may 262144 x = true) :
 Calls Tryz.prog 20 #[.agg cs.toArray] w fun e w' => e = .returned (.int .i64 ((nu_out x).length : Int)) ∧ Below w.heap.size w w' := by
 have HL := Lib.hid (nu_olen hf)
 have HM := Lib.hid (fun w' (hb : Below w.heap.size w w') => nu_marshal_if x hMl hMes cs Q 262144 w' hf (nuCel.upd (Upd.of_new (S := fun _ => False) hb) (fun _ _ h => h) (fun _ h => h) hr) (by omega))
 rw [hm] at HM
 obtain ⟨o, ho⟩ : ∃ o, nu_out x = o := ⟨_, rfl⟩
 rw [ho] at HM HL ⊢
 obtain ⟨⟨a, ⟨t, ⟨⟨⟨k, n⟩, es⟩, ⟨l, f⟩⟩⟩⟩, u⟩ := x
 obtain ⟨lo, lc, eo, ec, rfl, _, _⟩ := hr
 dsimp only [strV] at HM ⊢
 obtain ⟨Xu, hXu⟩ : ∃ U : ByteArray, (⟨u.toArray⟩ : ByteArray) = U := ⟨_, rfl⟩
 rw [hXu] at HM ⊢
 clear hXu hf hm ho
 obtain ⟨W, hW⟩ : ∃ W, w.alloc (.cells #[.slice lo l.length lc, .int .u64 (a : Int), .int .u64 (t : Int), .int .i64 k, .int .u64 (n : Int), .slice eo es.length ec, .int .u32 (f : Int), .string Xu] 28) = W := ⟨_, rfl⟩
 have HB0 : Hid (Below w.heap.size w W) := Lib.hid (by rw [← hW]; exact below_new _ _)
 have HW := Lib.hid hW
 clear hW
 go_enter Tryz.func20, Tryz.ntmps20
 go_wp2_with fail
 rw [HW.out]
 refine (HM.out W HB0.out).mono ?_; rintro e w1 ⟨hb, hcase⟩
 have HB1 := Lib.hid (below_step HB0.out hb)
 clear hb
 rw [if_pos rfl] at hcase
 subst hcase
 obtain ⟨P, hP⟩ : ∃ P : ByteArray, (⟨o.toArray⟩ : ByteArray) = P := ⟨_, rfl⟩
 have hz : P.size = o.length := by rw [← hP]; simp [ByteArray.size]
 rw [hP]
 have HZ := Lib.hid hz
 clear hP hz
 go_wp2_with fail
 go_ret
 exact ⟨by rw [HZ.out]; rfl, HB1.out⟩
theorem first_nu1 (w : World) : Calls Tryz.prog 17 #[.agg #[.slice none 0 0, .int .u64 0, .int .u64 0, .int .i64 0, .int .u64 0, .slice none 0 0, .int .u32 1, .string ⟨#[]⟩], .int .i64 0] w fun e w' => e = .returned (.tuple #[.string ⟨#[64, 1]⟩, .nilIface]) ∧ Below w.heap.size w w' := by
  refine (nu_marshal_if ((0, (0, (((0, 0), []), ([], 1)))), []) (Lib.hid fun h => absurd rfl h) (Lib.hid fun h => absurd rfl h) [.slice none 0 0, .int .u64 0, .int .u64 0, .int .i64 0, .int .u64 0, .slice none 0 0, .int .u32 1, .string ⟨#[]⟩] (fun _ => False) 0 w ⟨by omega, by omega, by omega, fun x hx => (by cases hx), by rw [ksfit]; trivial, by omega, by simp [lwt, lsum, ksw]⟩ ⟨none, 0, none, 0, rfl, by rw [KRels]; trivial, CRels.nil _ _ _ _⟩ (by omega)).mono ?_
  rintro e w' ⟨hb, h⟩
  rw [show nu_may 0 ((0, (0, (((0, 0), []), ([], 1)))), []) = true by kernel_rfl, if_pos rfl, show nu_out ((0, (0, (((0, 0), []), ([], 1)))), []) = [64, 1] by kernel_rfl] at h
  exact ⟨h, hb⟩
theorem first_nu2 (w : World) : Calls Tryz.prog 20 #[.agg #[.slice none 0 0, .int .u64 0, .int .u64 0, .int .i64 1, .int .u64 0, .slice none 0 0, .int .u32 0, .string ⟨#[]⟩]] w fun e w' => e = .returned (.int .i64 9) ∧ Below w.heap.size w w' := by
  have h := nu_size_if ((0, (0, (((1, 0), []), ([], 0)))), []) (Lib.hid fun h => absurd rfl h) (Lib.hid fun h => absurd rfl h) [.slice none 0 0, .int .u64 0, .int .u64 0, .int .i64 1, .int .u64 0, .slice none 0 0, .int .u32 0, .string ⟨#[]⟩] (fun _ => False) w ⟨by omega, by omega, by omega, fun x hx => (by cases hx), by rw [ksfit]; trivial, by omega, by simp [lwt, lsum, ksw]⟩ ⟨none, 0, none, 0, rfl, by rw [KRels]; trivial, CRels.nil _ _ _ _⟩ (by kernel_rfl)
  rw [show (nu_out ((0, (0, (((1, 0), []), ([], 0)))), [])).length = 9 by kernel_rfl] at h
  exact h
theorem first_nurec {r : Rec} (hr : ∀ rs, wall (⟨#[64, 1]⟩ : ByteArray).data.toList 0 = .ok rs → r ∈ rs) : r.num = 8 := by
  have h := hr [⟨8, 0, 1, [], [64, 1]⟩] (by kernel_rfl)
  rw [List.mem_singleton.1 h]
theorem first_nurd : nurd [64, 1] 0 = .ok ((0, (0, (((0, 0), []), ([], 1)))), []) := by kernel_rfl
theorem first12 (w : World) : Calls Tryz.prog 10 #[] w fun e w' => e = .returned (.bool true) ∧ Below w.heap.size w w' := by
  have HUN := Lib.hid (fun w' => unnu_if ⟨#[64, 1]⟩ 0 (Lib.hid fun r hr h3 => absurd ((first_nurec hr).symm.trans h3) (by decide)) (Lib.hid fun r hr h3 => absurd ((first_nurec hr).symm.trans h3) (by decide)) w' (by decide) (by omega))
  rw [show (⟨#[64, 1]⟩ : ByteArray).data.toList = [64, 1] from rfl, first_nurd] at HUN
  go_enter Tryz.func10, Tryz.ntmps10
  go_wp2_with fail
  refine (first_nu1 w).mono ?_; rintro e w1 ⟨rfl, hb1⟩
  have HB1 := Lib.hid hb1
  clear hb1
  go_wp2_with fail
  refine (HUN.out w1).mono ?_; rintro e w2 ⟨hb2, cs, rfl, lo, lc, eo, ec, rfl, _⟩
  have HB2 := Lib.hid (below_step HB1.out hb2)
  clear hb2
  dsimp only [strV]
  go_wp2_with fail
  obtain ⟨bl, hbl⟩ : ∃ b, w2.heap.size = b := ⟨_, rfl⟩
  obtain ⟨W3, hW⟩ : ∃ W, w2.alloc (.cells #[.slice lo 0 lc, .int .u64 0, .int .u64 0, .int .i64 0, .int .u64 0, .slice eo 0 ec, .int .u32 1, .string ⟨#[]⟩] 28) = W := ⟨_, rfl⟩
  have hb3 : Below w2.heap.size w2 W3 := by rw [← hW]; exact below_new _ _
  have hr : W3.heap[bl]? = some (.cells #[.slice lo 0 lc, .int .u64 0, .int .u64 0, .int .i64 0, .int .u64 0, .slice eo 0 ec, .int .u32 1, .string ⟨#[]⟩] 28 (0, 0)) := by rw [← hW, ← hbl]; exact new_row _ _ _
  have HB3 := Lib.hid (below_step HB2.out hb3)
  rw [hW, hbl]
  clear hW hbl hb3
  refine (first_nu2 W3).mono ?_; rintro e w4 ⟨rfl, hb4⟩
  have HB4 := Lib.hid (below_step HB3.out hb4)
  have hx6 : w4.cell? ⟨bl, 6, none⟩ = some (.int .u32 1) := row_cell ((hb4.block _ (row_lt hr)).trans hr) (j := 6) rfl
  clear hb4 hr
  go_wp2_with fail
  go_ret
  exact ⟨rfl, HB4.out⟩
end Go.Proofs.YtjbingoliffjiaaGreatDoor
