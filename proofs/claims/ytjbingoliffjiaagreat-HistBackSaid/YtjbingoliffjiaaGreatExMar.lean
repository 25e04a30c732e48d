/-
  exem.Marshal.
-/
import Derived.Test.YtjbingoliffjiaaGreatExUn
import Derived.Test.YtjbingoliffjiaaGreatExBack
import Derived.Test.YtjbingoliffjiaaGreatPartK
import Derived.Test.YtjbingoliffjiaaGreatErrNew
set_option maxRecDepth 1000000
set_option maxHeartbeats 16000000
namespace Go.Proofs.YtjbingoliffjiaaGreat
open Go.RowKit
theorem ex_marshal_if (x : Ex) (hM : Hid (x.1.2.2 ≠ [] → KMar)) (cs : List Value) (Q : Nat → Prop) (d : Int) (w : World) (hf : ex_fit x) (hr : exCel.R w Q x cs) (hd : -9223372036854775808 ≤ d ∧ d ≤ 9223372036854775807) :
  Calls Tryz.prog 32 #[.agg cs.toArray, .int .i64 d] w (MarPost (ex_may d x) (ex_out x) w) := by
 obtain ⟨⟨t, ⟨⟨⟨k, n⟩, ⟨a, b⟩⟩, l⟩⟩, u⟩ := x
 obtain ⟨lo, lc, rfl, hr⟩ := hr
 have HR := Lib.hid (KRels.lt _ _ _ hr)
 have HD := Lib.hid hd
 obtain ⟨hnt, hnn, hfl, hw⟩ := hf
 have HFK := Lib.hid hw
 have HNT := Lib.hid hnt
 have HNN := Lib.hid hnn
 have HFL := Lib.hid hfl
 obtain ⟨Xa, hXa⟩ : ∃ U : ByteArray, (⟨a.toArray⟩ : ByteArray) = U := ⟨_, rfl⟩
 obtain ⟨Xb, hXb⟩ : ∃ U : ByteArray, (⟨b.toArray⟩ : ByteArray) = U := ⟨_, rfl⟩
 obtain ⟨Xu, hXu⟩ : ∃ U : ByteArray, (⟨u.toArray⟩ : ByteArray) = U := ⟨_, rfl⟩
 have HXa : Hid (Xa.data.toList = a) := Lib.hid (by rw [← hXa])
 have HXb : Hid (Xb.data.toList = b) := Lib.hid (by rw [← hXb])
 have HU := Lib.hid hXu
 dsimp only [strV]
 rw [hXa, hXb, hXu]
 obtain ⟨mx, hmx⟩ : ∃ m, ex_may d ((t, (((k, n), (a, b)), l)), u) = m := ⟨_, rfl⟩
 obtain ⟨ox, hox⟩ : ∃ m, ex_out ((t, (((k, n), (a, b)), l)), u) = m := ⟨_, rfl⟩
 rw [hmx, hox]
 have HMX := Lib.hid hmx
 have HOX := Lib.hid hox
 obtain ⟨W0, hW0⟩ : ∃ W, w.alloc (.cells #[.slice lo l.length lc, .int .u64 (t : Int), .int .i64 k, .int .u64 (n : Int), .string Xa, .string Xb, .string Xu] 53) = W := ⟨_, rfl⟩
 obtain ⟨bx, hbx⟩ : ∃ bx, w.heap.size = bx := ⟨_, rfl⟩
 have HB0 : Hid (Below w.heap.size w W0) := Lib.hid (by rw [← hW0]; exact below_new _ _)
 have HX0 : Hid (W0.heap[bx]? = some (.cells #[.slice lo l.length lc, .int .u64 (t : Int), .int .i64 k, .int .u64 (n : Int), .string Xa, .string Xb, .string Xu] 53 (0, 0))) := Lib.hid (by rw [← hW0, ← hbx]; exact heap_alloc_new _ _)
 have HW0 := Lib.hid hW0
 have HBX := Lib.hid hbx
 have HET := Lib.hid (enters_of Tryz.func56 (by kernel_rfl) rfl)
 clear hW0 hbx hr hd hmx hox hXa hXb hXu hnt hnn hfl hw
 go_enter Tryz.func32, Tryz.ntmps32
 go_wp2_with fail
 rw [HW0.out, HBX.out]
 refine (wmnew_any d W0).mono ?_; rintro e wz ⟨rfl, hb1, P1, hw1, hp1⟩
 obtain ⟨p, hp⟩ : ∃ p, W0.heap.size = p := ⟨_, rfl⟩
 have hpp : bx < p := by rw [← hp]; exact row_lt HX0.out
 rw [hp] at hw1 hb1 hp1 ⊢
 have HB1 : Hid (Below p W0 wz) := Lib.hid hb1
 have HP1 : Hid (∀ k, P1 k → p ≤ k) := Lib.hid hp1
 have HPE := Lib.hid hp
 have HS := Lib.hid (WSx.start (wh_new hw1) (Below.refl _ _) ((hb1.block _ hpp).trans HX0.out) (fun h => by have := hp1 bx h; omega))
 have HR1 : Hid (KRels wz (fun k => Q k ∧ k < w.heap.size) l lo 0) := Lib.hid (KRels.upd (Upd.of_new (S := fun _ => False) (HB0.out.trans (hb1.mono (by have := HB0.out.size; omega)))) (fun _ _ h => h) (fun _ h => h) l lo 0 HR.out)
 have HQ1 : Hid (∀ k, Q k ∧ k < w.heap.size → k < p ∧ k < wz.heap.size) := Lib.hid (fun k hk => by have := HB0.out.size; have := hb1.size; omega)
 clear hb1 hw1 hp1 hp
 have xc : wz.cell? ⟨bx, 2, none⟩ = some (.int .i64 k) := HS.out.cell rfl
 have xn : wz.cell? ⟨bx, 3, none⟩ = some (.int .u64 (n : Int)) := HS.out.cell rfl
 go_wp2_with fail
 refine (wv_kind k n (Lib.hid HS.out.so.wr)).mono ?_; intro e wz hpost
 obtain ⟨qs2, P2, rfl, hs⟩ := HS.out.next hpost
 have HSN := Lib.hid hs
 clear hpost hs HS xc xn
 have HS := HSN
 clear HSN
 have xc : wz.cell? ⟨bx, 1, none⟩ = some (.int .u64 (t : Int)) := HS.out.cell rfl
 go_wp2_with fail
 refine (wv_num 2 t HS.out.so.wr HNT.out (by omega) (by omega) (by have := HS.out.so.len; have := HFK.out; simp only [List.nil_append]; omega) (by have := HS.out.so.size; have := HFK.out; simp only [List.nil_append]; omega)).mono ?_; intro e wz hpost
 obtain ⟨qs2, P2, rfl, hs⟩ := HS.out.next hpost
 have HSN := Lib.hid hs
 clear hpost hs HS xc
 have HS := HSN
 clear HSN
 have hkk : ((k == 1) = true ∧ (k == 2) = false) ∨ ((k == 1) = false ∧ (k == 2) = true) ∨ ((k == 1) = false ∧ (k == 2) = false) := by
   by_cases h1 : k = 1
   · subst h1; left; exact ⟨rfl, rfl⟩
   · by_cases h2 : k = 2
     · subst h2; right; left; exact ⟨rfl, rfl⟩
     · right; right; exact ⟨beq_eq_false_iff_ne.2 h1, beq_eq_false_iff_ne.2 h2⟩
 rcases hkk with ⟨c1, c2⟩ | ⟨c1, c2⟩ | ⟨c1, c2⟩
 all_goals
  have xc : wz.cell? ⟨bx, 2, none⟩ = some (.int .i64 k) := HS.out.cell rfl
  have xn : wz.cell? ⟨bx, 3, none⟩ = some (.int .u64 (n : Int)) := HS.out.cell rfl
  have xd : wz.cell? ⟨bx, 4, none⟩ = some (.string Xa) := HS.out.cell rfl
  go_wp2_with fail
  first
  | (go_at_call 15
     refine (wfixed_any 3 n _ (by omega) (by omega) HNN.out).mono ?_; rintro e wz ⟨rfl, hbz⟩
     rw [show wrec 3 1 (eight 8 n) = (rF 3 n).raw from rF_wrec (num := 3) (by omega) (by omega) n]
     have HSN := Lib.hid (HS.out.below hbz)
     clear hbz HS xc xn xd
     have HS := HSN
     clear HSN
     go_wp2_with fail
     refine ((wv_put (rF 3 n).raw HS.out.so.wr (by have := HS.out.so.len; have := HFK.out; simp only [List.nil_append]; omega) (by have := rF_len20 3 n; have := HS.out.so.size; have := HFK.out; simp only [List.nil_append]; omega)).mono (fun _ _ h => wv_if (k = 1) (eq_of_beq c1) (h.le (Nat.le_refl _) (rF_len20 3 n)))).mono ?_; intro e wz hpost
     obtain ⟨qs2, P2, rfl, hs⟩ := HS.out.next hpost
     have HSN := Lib.hid hs
     clear hpost hs HS
     have HS := HSN
     clear HSN)
  | (have HSN := Lib.hid (HS.out.skip (k = 1) (fun h => by rw [h] at c1; simp at c1) (rF 3 n).raw 20)
     clear HS xc xn xd
     have HS := HSN
     clear HSN)
  have xc : wz.cell? ⟨bx, 4, none⟩ = some (.string Xa) := HS.out.cell rfl
  try go_wp2_with fail
  refine (wv_bytes 4 Xa a HS.out.so.wr HXa.out (by omega) (by omega) (by have := HFK.out; omega) (by have := HS.out.so.len; have := HFK.out; simp only [List.nil_append]; omega) (by have := HS.out.so.size; have := HFK.out; simp only [List.nil_append]; omega)).mono ?_; intro e wz hpost
  obtain ⟨qs2, P2, rfl, hs⟩ := HS.out.next hpost
  have HSN := Lib.hid hs
  clear hpost hs HS xc
  have HS := HSN
  clear HSN
  have xc : wz.cell? ⟨bx, 5, none⟩ = some (.string Xb) := HS.out.cell rfl
  go_wp2_with fail
  refine (wv_bytes 5 Xb b HS.out.so.wr HXb.out (by omega) (by omega) (by have := HFK.out; omega) (by have := HS.out.so.len; have := HFK.out; simp only [List.nil_append]; omega) (by have := HS.out.so.size; have := HFK.out; simp only [List.nil_append]; omega)).mono ?_; intro e wz hpost
  obtain ⟨qs2, P2, rfl, hs⟩ := HS.out.next hpost
  have HSN := Lib.hid hs
  clear hpost hs HS xc
  have HS := HSN
  clear HSN
  have xc : wz.cell? ⟨bx, 2, none⟩ = some (.int .i64 k) := HS.out.cell rfl
  have xn : wz.cell? ⟨bx, 3, none⟩ = some (.int .u64 (n : Int)) := HS.out.cell rfl
  have xd : wz.cell? ⟨bx, 0, none⟩ = some (.slice lo l.length lc) := HS.out.cell rfl
  go_wp2_with fail
  first
  | (go_at_call 15
     refine (wfixed_any 6 n _ (by omega) (by omega) HNN.out).mono ?_; rintro e wz ⟨rfl, hbz⟩
     rw [show wrec 6 1 (eight 8 n) = (rF 6 n).raw from rF_wrec (num := 6) (by omega) (by omega) n]
     have HSN := Lib.hid (HS.out.below hbz)
     clear hbz HS xc xn xd
     have HS := HSN
     clear HSN
     go_wp2_with fail
     refine ((wv_put (rF 6 n).raw HS.out.so.wr (by have := HS.out.so.len; have := HFK.out; simp only [List.nil_append]; omega) (by have := rF_len20 6 n; have := HS.out.so.size; have := HFK.out; simp only [List.nil_append]; omega)).mono (fun _ _ h => wv_if (k = 2) (eq_of_beq c2) (h.le (Nat.le_refl _) (rF_len20 6 n)))).mono ?_; intro e wz hpost
     obtain ⟨qs2, P2, rfl, hs⟩ := HS.out.next hpost
     have HSN := Lib.hid hs
     clear hpost hs HS
     have HS := HSN
     clear HSN)
  | (have HSN := Lib.hid (HS.out.skip (k = 2) (fun h => by rw [h] at c2; simp at c2) (rF 6 n).raw 20)
     clear HS xc xn xd
     have HS := HSN
     clear HSN)
  have xc : wz.cell? ⟨bx, 0, none⟩ = some (.slice lo l.length lc) := HS.out.cell rfl
  try go_wp2_with fail
  refine (listk_if l hM p d _ [] _ _ (fun k => Q k ∧ k < w.heap.size) wz 7 lo lc HFL.out (KRels.upd HS.out.so.upd (fun k hk h => by have := HP1.out k h; have := HQ1.out k hk; omega) (fun _ h => h) l lo 0 HR1.out) (fun k hk h => by have := HQ1.out k hk; rcases HS.out.so.new k h with h | h; (have := HP1.out k h; omega); omega) HS.out.so.wr (by by_cases h : d < 0; (left; simp [h]); (right; omega)) HD.out (by omega) ⟨by have := HS.out.so.len; have := HFK.out; simp only [List.nil_append]; omega, by have := HS.out.so.size; have := HFK.out; simp only [List.nil_append]; omega, by have := HFK.out; omega⟩).mono ?_; intro e wz hpost
  obtain ⟨qs2, P2, rfl, hs⟩ := HS.out.next hpost
  have HSN := Lib.hid hs
  clear hpost hs HS xc
  have HS := HSN
  clear HSN
  have xc : wz.cell? ⟨bx, 6, none⟩ = some (.string Xu) := HS.out.cell rfl
  go_wp2_with fail
  refine (wv_rest Xu u exF.tk 56 HS.out.so.wr HU.out.symm (by have := HFK.out; omega) (by have := HS.out.so.len; have := HFK.out; simp only [List.nil_append]; omega) (by have := HS.out.so.size; have := HFK.out; simp only [List.nil_append]; omega) HET.out (fun r w => extakes_any r w)).mono ?_; intro e wz hpost
  obtain ⟨qs2, P2, rfl, hs⟩ := HS.out.next hpost
  have HSN := Lib.hid hs
  clear hpost hs HS xc
  have HS := HSN
  clear HSN
  go_wp2_with fail
  obtain ⟨vo, P0, hwa, _⟩ := HS.out.so.wr
  have HWA := Lib.hid hwa
  have HLB := Lib.hid (And.intro HS.out.so.len HS.out.so.size)
  clear hwa
  refine (wend_any p d vo _ _ P0 _ HWA (by have := HLB.out.1; simp only [List.nil_append]; (have := HFK.out; omega)) (by have := HLB.out.2; simp only [List.nil_append]; (have := HFK.out; omega))).mono ?_; rintro e w9 ⟨hb9, hcase⟩
  have HB9 := Lib.hid (mar_below HB0.out HPE.out HB1.out HS.out.so.upd HP1.out hb9)
  have HBY := Lib.hid HS.out.so.bytes
  obtain ⟨bb, hbb⟩ : ∃ bb, (decide (d < 0) || !((((((((true && decide (k = 0 ∧ n = 0 ∨ k = 1 ∨ k = 2)) && true) && true) && true) && true) && true) && kmays l d) && munkOk exF.tk u d)) = bb := ⟨_, rfl⟩
  rw [hbb] at hcase HBY
  have HBB : Hid (mx = !bb) := Lib.hid (by
    rw [← HMX.out, ← hbb]
    show (decide (0 ≤ d) && ((decide (k = 0 ∧ n = 0 ∨ k = 1 ∨ k = 2) && kmays l d) && munkOk exF.tk u d)) = _
    by_cases h : d < 0
    · rw [decide_eq_true h, decide_eq_false (by omega : ¬ 0 ≤ d)]; rfl
    · rw [decide_eq_false h, decide_eq_true (by omega : 0 ≤ d)]
      simp only [Bool.true_and, Bool.and_true, Bool.false_or, Bool.not_not, Bool.and_assoc])
  clear hb9 hbb
  cases bb with
  | true =>
    rw [if_pos rfl] at hcase
    obtain ⟨v, rfl, hec⟩ := hcase
    obtain ⟨T', y, rfl⟩ := hec.iface
    have HEC := Lib.hid hec
    clear hec
    go_wp2_with fail
    go_ret2
    refine ⟨HB9.out, ?_⟩
    rw [HBB.out, if_neg (by simp)]
    exact ⟨_, rfl, HEC.out⟩
  | false =>
    rw [if_neg (by simp)] at hcase
    subst hcase
    have hq9 := HBY.out rfl
    rw [List.nil_append, hq9]
    have hoe : ([] ++ [] ++ (if t = 0 then [] else (rF 2 t).raw) ++ (if k = 1 then (rF 3 n).raw else []) ++ (if a = [] then [] else (rB 4 a).raw) ++ (if b = [] then [] else (rB 5 b).raw) ++ (if k = 2 then (rF 6 n).raw else []) ++ kouts 7 l ++ u : List UInt8) = ox := by
      rw [← HOX.out]
      show _ = (if t = 0 then [] else (rF 2 t).raw) ++ (if k = 1 then (rF 3 n).raw else []) ++ (if a = [] then [] else (rB 4 a).raw) ++ (if b = [] then [] else (rB 5 b).raw) ++ (if k = 2 then (rF 6 n).raw else []) ++ kouts 7 l ++ u
      simp only [List.nil_append]
    rw [hoe]
    clear hoe hq9
    go_wp2_with fail
    go_ret2
    refine ⟨HB9.out, ?_⟩
    rw [HBB.out, if_pos (show (!false) = true from rfl)]
    rfl
open Go.RowKit
end Go.Proofs.YtjbingoliffjiaaGreat
