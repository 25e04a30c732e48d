/-
  ExMar, ExKMar, NuKMar, ExRoom, NuRoom, NuWritesL
-/
import Derived.Test.YtjbingoliffjiaaGreatDoorNuRead
import Derived.Test.YtjbingoliffjiaaGreatDoorExBack
import Derived.Test.YtjbingoliffjiaaGreatDoorPartK
import Derived.Test.YtjbingoliffjiaaGreatDoorErrNew
import Derived.Test.YtjbingoliffjiaaGreatDoorValMar
import Derived.Test.YtjbingoliffjiaaGreatDoorNuMar
import Derived.Test.YtjbingoliffjiaaGreatDoorAlikeB
import Derived.Test.YtjbingoliffjiaaGreatDoorNuBack
import Derived.Test.YtjbingoliffjiaaGreatDoorNuOut
set_option maxRecDepth 1000000
set_option maxHeartbeats 16000000
namespace Go.Proofs.YtjbingoliffjiaaGreatDoor
open Go.RowKit
theorem ex_marshal_if (x : Ex) (hM : Hid (x.1.2.2 ≠ [] → KMar)) (cs : List Value) (Q : Nat → Prop) (d : Int) (w : World) (hf : ex_fit x) (hr : exCel.R w Q x cs) (hd : -9223372036854775808 ≤ d ∧ d ≤ 9223372036854775807) :
  Calls Tryz.prog 68 #[.agg cs.toArray, .int .i64 d] w (MarPost (ex_may d x) (ex_out x) w) := by
 obtain ⟨⟨t, ⟨⟨⟨k, n⟩, ⟨a, b⟩⟩, l⟩⟩, u⟩ := x
 obtain ⟨lo, lc, rfl, hr⟩ := hr
 have HR := Lib.hid (KRels.lt _ _ _ hr)
 have HD := Lib.hid hd
 obtain ⟨hnt, hnn, hfl, hw⟩ := hf
 have HFK := Lib.hid hw
 have HNT := Lib.hid hnt
 have HNN := Lib.hid hnn
 have HFL := Lib.hid hfl
 obtain ⟨Xa, hXa⟩ : ∃ U : ByteArray, (⟨a.toArray⟩ : ByteArray) = U := ⟨_, rfl⟩
 obtain ⟨Xb, hXb⟩ : ∃ U : ByteArray, (⟨b.toArray⟩ : ByteArray) = U := ⟨_, rfl⟩
 obtain ⟨Xu, hXu⟩ : ∃ U : ByteArray, (⟨u.toArray⟩ : ByteArray) = U := ⟨_, rfl⟩
 have HXa : Hid (Xa.data.toList = a) := Lib.hid (by rw [← hXa])
 have HXb : Hid (Xb.data.toList = b) := Lib.hid (by rw [← hXb])
 have HU := Lib.hid hXu
 dsimp only [strV]
 rw [hXa, hXb, hXu]
 obtain ⟨mx, hmx⟩ : ∃ m, ex_may d ((t, (((k, n), (a, b)), l)), u) = m := ⟨_, rfl⟩
 obtain ⟨ox, hox⟩ : ∃ m, ex_out ((t, (((k, n), (a, b)), l)), u) = m := ⟨_, rfl⟩
 rw [hmx, hox]
 have HMX := Lib.hid hmx
 have HOX := Lib.hid hox
 obtain ⟨W0, hW0⟩ : ∃ W, w.alloc (.cells #[.slice lo l.length lc, .int .u64 (t : Int), .int .i64 k, .int .u64 (n : Int), .string Xa, .string Xb, .string Xu] 91) = W := ⟨_, rfl⟩
 obtain ⟨bx, hbx⟩ : ∃ bx, w.heap.size = bx := ⟨_, rfl⟩
 have HB0 : Hid (Below w.heap.size w W0) := Lib.hid (by rw [← hW0]; exact below_new _ _)
 have HX0 : Hid (W0.heap[bx]? = some (.cells #[.slice lo l.length lc, .int .u64 (t : Int), .int .i64 k, .int .u64 (n : Int), .string Xa, .string Xb, .string Xu] 91 (0, 0))) := Lib.hid (by rw [← hW0, ← hbx]; exact heap_alloc_new _ _)
 have HW0 := Lib.hid hW0
 have HBX := Lib.hid hbx
 have HET := Lib.hid (enters_of Tryz.func124 (by kernel_rfl) rfl)
 clear hW0 hbx hr hd hmx hox hXa hXb hXu hnt hnn hfl hw
 go_enter Tryz.func68, Tryz.ntmps68
 go_wp2_with fail
 rw [HW0.out, HBX.out]
 refine (wmnew_any d W0).mono ?_; rintro e wz ⟨rfl, hb1, P1, hw1, hp1⟩
 obtain ⟨p, hp⟩ : ∃ p, W0.heap.size = p := ⟨_, rfl⟩
 have hpp : bx < p := by rw [← hp]; exact row_lt HX0.out
 rw [hp] at hw1 hb1 hp1 ⊢
 have HB1 : Hid (Below p W0 wz) := Lib.hid hb1
 have HP1 : Hid (∀ k, P1 k → p ≤ k) := Lib.hid hp1
 have HPE := Lib.hid hp
 have HS := Lib.hid (WSx.start (wh_new hw1) (Below.refl _ _) ((hb1.block _ hpp).trans HX0.out) (fun h => by have := hp1 bx h; omega))
 have HR1 : Hid (KRels wz (fun k => Q k ∧ k < w.heap.size) l lo 0) := Lib.hid (KRels.upd (Upd.of_new (S := fun _ => False) (HB0.out.trans (hb1.mono (by have := HB0.out.size; omega)))) (fun _ _ h => h) (fun _ h => h) l lo 0 HR.out)
 have HQ1 : Hid (∀ k, Q k ∧ k < w.heap.size → k < p ∧ k < wz.heap.size) := Lib.hid (fun k hk => by have := HB0.out.size; have := hb1.size; omega)
 clear hb1 hw1 hp1 hp
 have xc : wz.cell? ⟨bx, 2, none⟩ = some (.int .i64 k) := HS.out.cell rfl
 have xn : wz.cell? ⟨bx, 3, none⟩ = some (.int .u64 (n : Int)) := HS.out.cell rfl
 go_wp2_with fail
 refine (wv_kind k n (Lib.hid HS.out.so.wr)).mono ?_; intro e wz hpost
 obtain ⟨qs2, P2, rfl, hs⟩ := HS.out.next hpost
 have HSN := Lib.hid hs
 clear hpost hs HS xc xn
 have HS := HSN
 clear HSN
 have xc : wz.cell? ⟨bx, 1, none⟩ = some (.int .u64 (t : Int)) := HS.out.cell rfl
 go_wp2_with fail
 refine (wv_num 2 t HS.out.so.wr HNT.out (by omega) (by omega) (by have := HS.out.so.len; have := HFK.out; simp only [List.nil_append]; omega) (by have := HS.out.so.size; have := HFK.out; simp only [List.nil_append]; omega)).mono ?_; intro e wz hpost
 obtain ⟨qs2, P2, rfl, hs⟩ := HS.out.next hpost
 have HSN := Lib.hid hs
 clear hpost hs HS xc
 have HS := HSN
 clear HSN
 have hkk : ((k == 1) = true ∧ (k == 2) = false) ∨ ((k == 1) = false ∧ (k == 2) = true) ∨ ((k == 1) = false ∧ (k == 2) = false) := by
   by_cases h1 : k = 1
   · subst h1; left; exact ⟨rfl, rfl⟩
   · by_cases h2 : k = 2
     · subst h2; right; left; exact ⟨rfl, rfl⟩
     · right; right; exact ⟨beq_eq_false_iff_ne.2 h1, beq_eq_false_iff_ne.2 h2⟩
 rcases hkk with ⟨c1, c2⟩ | ⟨c1, c2⟩ | ⟨c1, c2⟩
 all_goals
  have xc : wz.cell? ⟨bx, 2, none⟩ = some (.int .i64 k) := HS.out.cell rfl
  have xn : wz.cell? ⟨bx, 3, none⟩ = some (.int .u64 (n : Int)) := HS.out.cell rfl
  have xd : wz.cell? ⟨bx, 4, none⟩ = some (.string Xa) := HS.out.cell rfl
  go_wp2_with fail
  first
  | (go_at_call 66
     refine (wfixed_any 3 n _ (by omega) (by omega) HNN.out).mono ?_; rintro e wz ⟨rfl, hbz⟩
     rw [show wrec 3 1 (eight 8 n) = (rF 3 n).raw from rF_wrec (num := 3) (by omega) (by omega) n]
     have HSN := Lib.hid (HS.out.below hbz)
     clear hbz HS xc xn xd
     have HS := HSN
     clear HSN
     go_wp2_with fail
     refine ((wv_put (rF 3 n).raw HS.out.so.wr (by have := HS.out.so.len; have := HFK.out; simp only [List.nil_append]; omega) (by have := rF_len20 3 n; have := HS.out.so.size; have := HFK.out; simp only [List.nil_append]; omega)).mono (fun _ _ h => wv_if (k = 1) (eq_of_beq c1) (h.le (Nat.le_refl _) (rF_len20 3 n)))).mono ?_; intro e wz hpost
     obtain ⟨qs2, P2, rfl, hs⟩ := HS.out.next hpost
     have HSN := Lib.hid hs
     clear hpost hs HS
     have HS := HSN
     clear HSN)
  | (have HSN := Lib.hid (HS.out.skip (k = 1) (fun h => by rw [h] at c1; simp at c1) (rF 3 n).raw 20)
     clear HS xc xn xd
     have HS := HSN
     clear HSN)
  have xc : wz.cell? ⟨bx, 4, none⟩ = some (.string Xa) := HS.out.cell rfl
  try go_wp2_with fail
  refine (wv_bytes 4 Xa a HS.out.so.wr HXa.out (by omega) (by omega) (by have := HFK.out; omega) (by have := HS.out.so.len; have := HFK.out; simp only [List.nil_append]; omega) (by have := HS.out.so.size; have := HFK.out; simp only [List.nil_append]; omega)).mono ?_; intro e wz hpost
  obtain ⟨qs2, P2, rfl, hs⟩ := HS.out.next hpost
  have HSN := Lib.hid hs
  clear hpost hs HS xc
  have HS := HSN
  clear HSN
  have xc : wz.cell? ⟨bx, 5, none⟩ = some (.string Xb) := HS.out.cell rfl
  go_wp2_with fail
  refine (wv_bytes 5 Xb b HS.out.so.wr HXb.out (by omega) (by omega) (by have := HFK.out; omega) (by have := HS.out.so.len; have := HFK.out; simp only [List.nil_append]; omega) (by have := HS.out.so.size; have := HFK.out; simp only [List.nil_append]; omega)).mono ?_; intro e wz hpost
  obtain ⟨qs2, P2, rfl, hs⟩ := HS.out.next hpost
  have HSN := Lib.hid hs
  clear hpost hs HS xc
  have HS := HSN
  clear HSN
  have xc : wz.cell? ⟨bx, 2, none⟩ = some (.int .i64 k) := HS.out.cell rfl
  have xn : wz.cell? ⟨bx, 3, none⟩ = some (.int .u64 (n : Int)) := HS.out.cell rfl
  have xd : wz.cell? ⟨bx, 0, none⟩ = some (.slice lo l.length lc) := HS.out.cell rfl
  go_wp2_with fail
  first
  | (go_at_call 66
     refine (wfixed_any 6 n _ (by omega) (by omega) HNN.out).mono ?_; rintro e wz ⟨rfl, hbz⟩
     rw [show wrec 6 1 (eight 8 n) = (rF 6 n).raw from rF_wrec (num := 6) (by omega) (by omega) n]
     have HSN := Lib.hid (HS.out.below hbz)
     clear hbz HS xc xn xd
     have HS := HSN
     clear HSN
     go_wp2_with fail
     refine ((wv_put (rF 6 n).raw HS.out.so.wr (by have := HS.out.so.len; have := HFK.out; simp only [List.nil_append]; omega) (by have := rF_len20 6 n; have := HS.out.so.size; have := HFK.out; simp only [List.nil_append]; omega)).mono (fun _ _ h => wv_if (k = 2) (eq_of_beq c2) (h.le (Nat.le_refl _) (rF_len20 6 n)))).mono ?_; intro e wz hpost
     obtain ⟨qs2, P2, rfl, hs⟩ := HS.out.next hpost
     have HSN := Lib.hid hs
     clear hpost hs HS
     have HS := HSN
     clear HSN)
  | (have HSN := Lib.hid (HS.out.skip (k = 2) (fun h => by rw [h] at c2; simp at c2) (rF 6 n).raw 20)
     clear HS xc xn xd
     have HS := HSN
     clear HSN)
  have xc : wz.cell? ⟨bx, 0, none⟩ = some (.slice lo l.length lc) := HS.out.cell rfl
  try go_wp2_with fail
  refine (listk_if l hM p d _ [] _ _ (fun k => Q k ∧ k < w.heap.size) wz 7 lo lc HFL.out (KRels.upd HS.out.so.upd (fun k hk h => by have := HP1.out k h; have := HQ1.out k hk; omega) (fun _ h => h) l lo 0 HR1.out) (fun k hk h => by have := HQ1.out k hk; rcases HS.out.so.new k h with h | h; (have := HP1.out k h; omega); omega) HS.out.so.wr (by by_cases h : d < 0; (left; simp [h]); (right; omega)) HD.out (by omega) ⟨by have := HS.out.so.len; have := HFK.out; simp only [List.nil_append]; omega, by have := HS.out.so.size; have := HFK.out; simp only [List.nil_append]; omega, by have := HFK.out; omega⟩).mono ?_; intro e wz hpost
  obtain ⟨qs2, P2, rfl, hs⟩ := HS.out.next hpost
  have HSN := Lib.hid hs
  clear hpost hs HS xc
  have HS := HSN
  clear HSN
  have xc : wz.cell? ⟨bx, 6, none⟩ = some (.string Xu) := HS.out.cell rfl
  go_wp2_with fail
  refine (wv_rest Xu u exF.tk 124 HS.out.so.wr HU.out.symm (by have := HFK.out; omega) (by have := HS.out.so.len; have := HFK.out; simp only [List.nil_append]; omega) (by have := HS.out.so.size; have := HFK.out; simp only [List.nil_append]; omega) HET.out (fun r w => extakes_any r w)).mono ?_; intro e wz hpost
  obtain ⟨qs2, P2, rfl, hs⟩ := HS.out.next hpost
  have HSN := Lib.hid hs
  clear hpost hs HS xc
  have HS := HSN
  clear HSN
  go_wp2_with fail
  obtain ⟨vo, P0, hwa, _⟩ := HS.out.so.wr
  have HWA := Lib.hid hwa
  have HLB := Lib.hid (And.intro HS.out.so.len HS.out.so.size)
  clear hwa
  refine (wend_any p d vo _ _ P0 _ HWA (by have := HLB.out.1; simp only [List.nil_append]; (have := HFK.out; omega)) (by have := HLB.out.2; simp only [List.nil_append]; (have := HFK.out; omega))).mono ?_; rintro e w9 ⟨hb9, hcase⟩
  have HB9 := Lib.hid (mar_below HB0.out HPE.out HB1.out HS.out.so.upd HP1.out hb9)
  have HBY := Lib.hid HS.out.so.bytes
  obtain ⟨bb, hbb⟩ : ∃ bb, (decide (d < 0) || !((((((((true && decide (k = 0 ∧ n = 0 ∨ k = 1 ∨ k = 2)) && true) && true) && true) && true) && true) && kmays l d) && munkOk exF.tk u d)) = bb := ⟨_, rfl⟩
  rw [hbb] at hcase HBY
  have HBB : Hid (mx = !bb) := Lib.hid (by
    rw [← HMX.out, ← hbb]
    show (decide (0 ≤ d) && ((decide (k = 0 ∧ n = 0 ∨ k = 1 ∨ k = 2) && kmays l d) && munkOk exF.tk u d)) = _
    by_cases h : d < 0
    · rw [decide_eq_true h, decide_eq_false (by omega : ¬ 0 ≤ d)]; rfl
    · rw [decide_eq_false h, decide_eq_true (by omega : 0 ≤ d)]
      simp only [Bool.true_and, Bool.and_true, Bool.false_or, Bool.not_not, Bool.and_assoc])
  clear hb9 hbb
  cases bb with
  | true =>
    rw [if_pos rfl] at hcase
    obtain ⟨v, rfl, hec⟩ := hcase
    obtain ⟨T', y, rfl⟩ := hec.iface
    have HEC := Lib.hid hec
    clear hec
    go_wp2_with fail
    go_ret2
    refine ⟨HB9.out, ?_⟩
    rw [HBB.out, if_neg (by simp)]
    exact ⟨_, rfl, HEC.out⟩
  | false =>
    rw [if_neg (by simp)] at hcase
    subst hcase
    have hq9 := HBY.out rfl
    rw [List.nil_append, hq9]
    have hoe : ([] ++ [] ++ (if t = 0 then [] else (rF 2 t).raw) ++ (if k = 1 then (rF 3 n).raw else []) ++ (if a = [] then [] else (rB 4 a).raw) ++ (if b = [] then [] else (rB 5 b).raw) ++ (if k = 2 then (rF 6 n).raw else []) ++ kouts 7 l ++ u : List UInt8) = ox := by
      rw [← HOX.out]
      show _ = (if t = 0 then [] else (rF 2 t).raw) ++ (if k = 1 then (rF 3 n).raw else []) ++ (if a = [] then [] else (rB 4 a).raw) ++ (if b = [] then [] else (rB 5 b).raw) ++ (if k = 2 then (rF 6 n).raw else []) ++ kouts 7 l ++ u
      simp only [List.nil_append]
    rw [hoe]
    clear hoe hq9
    go_wp2_with fail
    go_ret2
    refine ⟨HB9.out, ?_⟩
    rw [HBB.out, if_pos (show (!false) = true from rfl)]
    rfl
open Go.RowKit
open Go.RowKit
theorem ex_marshal (x : Ex) (cs : List Value) (Q : Nat → Prop) (d : Int) (w : World) (hf : ex_fit x) (hr : exCel.R w Q x cs) (hd : -9223372036854775808 ≤ d ∧ d ≤ 9223372036854775807) :
    Calls Tryz.prog 68 #[.agg cs.toArray, .int .i64 d] w (MarPost (ex_may d x) (ex_out x) w) := ex_marshal_if x (Lib.hid fun _ => kmar_any) cs Q d w hf hr hd
open Go.RowKit
theorem nu_marshal (x : Nu) (cs : List Value) (Q : Nat → Prop) (d : Int) (w : World) (hf : nu_fit x) (hr : nuCel.R w Q x cs) (hd : -9223372036854775808 ≤ d ∧ d ≤ 9223372036854775807) :
    Calls Tryz.prog 17 #[.agg cs.toArray, .int .i64 d] w (MarPost (nu_may d x) (nu_out x) w) := nu_marshal_if x (Lib.hid fun _ => kmar_any) (Lib.hid fun _ => ex_marshal) cs Q d w hf hr hd
theorem nu_size (x : Nu) (cs : List Value) (Q : Nat → Prop) (w : World) (hf : nu_fit x) (hr : nuCel.R w Q x cs) (hm : nu_may 262144 x = true) :
 Calls Tryz.prog 20 #[.agg cs.toArray] w fun e w' => e = .returned (.int .i64 ((nu_out x).length : Int)) ∧ Below w.heap.size w w' := nu_size_if x (Lib.hid fun _ => kmar_any) (Lib.hid fun _ => ex_marshal) cs Q w hf hr hm
theorem nu_mayc (x : Nu) (cs : List Value) (Q : Nat → Prop) (d : Int) (w : World) (hf : nu_fit x) (hr : nuCel.R w Q x cs) (hd : -9223372036854775808 ≤ d ∧ d ≤ 9223372036854775807) :
 Calls Tryz.prog 18 #[.agg cs.toArray, .int .i64 d] w fun e w' => e = .returned (.bool (nu_may d x)) ∧ Below w.heap.size w w' := by
 have HM := Lib.hid (fun w' (hb : Below w.heap.size w w') => nu_marshal x cs Q d w' hf (nuCel.upd (Upd.of_new (S := fun _ => False) hb) (fun _ _ h => h) (fun _ h => h) hr) hd)
 obtain ⟨⟨a, ⟨t, ⟨⟨⟨k, n⟩, es⟩, ⟨l, f⟩⟩⟩⟩, u⟩ := x
 obtain ⟨lo, lc, eo, ec, rfl, _, _⟩ := hr
 obtain ⟨g, hg⟩ : ∃ g, nu_may d ((a, (t, (((k, n), es), (l, f)))), u) = g := ⟨_, rfl⟩
 rw [hg] at HM ⊢
 dsimp only [strV] at HM ⊢
 obtain ⟨Xu, hXu⟩ : ∃ U : ByteArray, (⟨u.toArray⟩ : ByteArray) = U := ⟨_, rfl⟩
 rw [hXu] at HM ⊢
 clear hXu
 obtain ⟨W, hW⟩ : ∃ W, w.alloc (.cells #[.slice lo l.length lc, .int .u64 (a : Int), .int .u64 (t : Int), .int .i64 k, .int .u64 (n : Int), .slice eo es.length ec, .int .u32 (f : Int), .string Xu] 28) = W := ⟨_, rfl⟩
 have HB0 : Hid (Below w.heap.size w W) := Lib.hid (by rw [← hW]; exact below_new _ _)
 have HW := Lib.hid hW
 clear hW hf hg hd
 go_enter Tryz.func18, Tryz.ntmps18
 go_wp2_with fail
 rw [HW.out]
 refine (HM.out W HB0.out).mono ?_; rintro e w1 ⟨hb, hcase⟩
 have HB1 := Lib.hid (below_step HB0.out hb)
 clear hb
 cases g with
 | true =>
  rw [if_pos rfl] at hcase
  subst hcase
  go_wp2_with fail
  go_ret
  exact ⟨rfl, HB1.out⟩
 | false =>
  rw [if_neg (by simp)] at hcase
  obtain ⟨v, rfl, hec⟩ := hcase
  obtain ⟨T', y, rfl⟩ := hec.iface
  clear hec
  go_wp2_with fail
  go_ret
  exact ⟨rfl, HB1.out⟩
open Go.RowKit
def exsw : List Ex → Nat
  | [] => 0
  | x :: l => ex_wt x + exsw l
theorem exsw_app : ∀ a b : List Ex, exsw (a ++ b) = exsw a + exsw b
  | [], b => by rw [exsw]; simp
  | x :: a, b => by rw [List.cons_append, exsw, exsw, exsw_app a b]; omega
theorem exsw_one (x : Ex) : exsw [x] = ex_wt x := by rw [exsw, exsw]; rfl
def RowX (w' : World) (g : Nat) (c : List Value) : Prop := w'.heap[g]? = some (.cells c.toArray 91 (0, 0))
theorem exrooms_any (l : List Ex) (eo : Option Addr) (ec : Nat) (P : Nat → Prop) (w : World) (room : Int) (hl : l.length ≤ 9223372036854775807) (hargs : ∀ x ∈ l, ex_arg x) (ha : CRels exCel w P l eo) (hro : -1 ≤ room ∧ room ≤ 1000000) :
 Calls Tryz.prog 56 #[.slice eo l.length ec, .int .i64 room] w (RmPost room (exsw l) w) := by
 have HA := Lib.hid ha
 have HARGS := Lib.hid hargs
 have HRO := Lib.hid hro
 clear ha hargs hro
 go_enter Tryz.func56, Tryz.ntmps56
 go_wp2_with fail
 go_loopg [1, 5] l.length (fun k r i wr => ∃ (j : Nat) (rm : Int), r = .int .i64 rm ∧ i = .int .i64 (j : Int) ∧ j + k = l.length ∧ Below w.heap.size w wr ∧ Hid (RoomOk room (exsw (l.take j)) rm))
 case atStart => exact ⟨0, room, rfl, rfl, by omega, Below.refl _ _, Lib.hid (by rw [List.take_zero, exsw]; unfold RoomOk; have := HRO.out; omega)⟩
 case round =>
  obtain ⟨j, rm, rfl, rfl, hj, hbr, HRM⟩ := hrel
  have HBR := Lib.hid hbr
  have HJ := Lib.hid hj
  have HRB := Lib.hid (HRM.out.le HRO.out)
  clear hbr hj
  by_cases hlt : j < l.length
  · by_cases hrm : 0 ≤ rm
    · have d4 : decide (rm ≥ 0) = true := decide_eq_true hrm
      obtain ⟨ga, oa, ca, rfl, _, hga, hca, hra⟩ := (HA.out.below HBR.out) j hlt
      have hca : Cells wr ga (oa + 7 * j) ca := hca
      have hmem := List.getElem_mem hlt
      obtain ⟨x, hx⟩ : ∃ x, l[j] = x := ⟨_, rfl⟩
      have HAX := HARGS.out x (hx ▸ hmem)
      have HTK : Hid (exsw (l.take (j + 1)) = exsw (l.take j) + ex_wt x) := Lib.hid (by rw [List.take_succ_eq_append_getElem hlt, exsw_app, hx, exsw_one])
      rw [hx] at hra
      clear hx hmem hrm
      obtain ⟨⟨t, ⟨⟨⟨k, n⟩, ⟨a, b⟩⟩, q⟩⟩, u⟩ := x
      obtain ⟨lo, lc, rfl, hkr⟩ := hra
      obtain ⟨_, _, hza, hzb, hfl, hll, hzl, hzu⟩ := HAX
      obtain ⟨Xa, hXa⟩ : ∃ X : ByteArray, (⟨a.toArray⟩ : ByteArray) = X := ⟨_, rfl⟩
      obtain ⟨Xb, hXb⟩ : ∃ X : ByteArray, (⟨b.toArray⟩ : ByteArray) = X := ⟨_, rfl⟩
      obtain ⟨Xu, hXu⟩ : ∃ X : ByteArray, (⟨u.toArray⟩ : ByteArray) = X := ⟨_, rfl⟩
      have HZA : Hid (Xa.size = a.length) := Lib.hid (by rw [← hXa]; simp [ByteArray.size])
      have HZB : Hid (Xb.size = b.length) := Lib.hid (by rw [← hXb]; simp [ByteArray.size])
      have HZU : Hid (Xu.size = u.length) := Lib.hid (by rw [← hXu]; simp [ByteArray.size])
      have HBA : Hid (Xa.size ≤ 9223372036854775807) := Lib.hid (by rw [HZA.out]; exact hza)
      have HBB : Hid (Xb.size ≤ 9223372036854775807) := Lib.hid (by rw [HZB.out]; exact hzb)
      have HBU : Hid (Xu.size ≤ 9223372036854775807) := Lib.hid (by rw [HZU.out]; exact hzu)
      have HKR := Lib.hid hkr
      have HFL := Lib.hid hfl
      have HLL := Lib.hid hll
      have HZL := Lib.hid hzl
      have HWX : Hid (ex_wt ((t, (((k, n), (a, b)), q)), u) = 60 + (a.length + b.length + ksw q + u.length)) := Lib.hid rfl
      have hca : Cells wr ga (oa + 7 * j) [.slice lo q.length lc, .int .u64 (t : Int), .int .i64 k, .int .u64 (n : Int), .string Xa, .string Xb, .string Xu] := by rw [← hXa, ← hXb, ← hXu]; exact hca
      have ev0 : wr.cell? ⟨ga, oa + j * 7, none⟩ = some (.slice lo q.length lc) := by have := hca 0 (by simp); rw [show oa + j * 7 = oa + 7 * j + 0 by omega, this]; rfl
      have ev1 : wr.cell? ⟨ga, oa + j * 7 + 1, none⟩ = some (.int .u64 (t : Int)) := by have := hca 1 (by simp); rw [show oa + j * 7 + 1 = oa + 7 * j + 1 by omega, this]; rfl
      have ev2 : wr.cell? ⟨ga, oa + j * 7 + 2, none⟩ = some (.int .i64 k) := by have := hca 2 (by simp); rw [show oa + j * 7 + 2 = oa + 7 * j + 2 by omega, this]; rfl
      have ev3 : wr.cell? ⟨ga, oa + j * 7 + 3, none⟩ = some (.int .u64 (n : Int)) := by have := hca 3 (by simp); rw [show oa + j * 7 + 3 = oa + 7 * j + 3 by omega, this]; rfl
      have ev4 : wr.cell? ⟨ga, oa + j * 7 + 4, none⟩ = some (.string Xa) := by have := hca 4 (by simp); rw [show oa + j * 7 + 4 = oa + 7 * j + 4 by omega, this]; rfl
      have ev5 : wr.cell? ⟨ga, oa + j * 7 + 5, none⟩ = some (.string Xb) := by have := hca 5 (by simp); rw [show oa + j * 7 + 5 = oa + 7 * j + 5 by omega, this]; rfl
      have ev6 : wr.cell? ⟨ga, oa + j * 7 + 6, none⟩ = some (.string Xu) := by have := hca 6 (by simp); rw [show oa + j * 7 + 6 = oa + 7 * j + 6 by omega, this]; rfl
      clear hXa hXb hXu hza hzb hzu hca hkr hfl hll hzl
      go_wp2_with fail
      clear ev0 ev1 ev2 ev3 ev4 ev5 ev6
      obtain ⟨bx, hbx⟩ : ∃ bx, wr.heap.size = bx := ⟨_, rfl⟩
      obtain ⟨W, hW⟩ : ∃ W, wr.alloc (.cells #[.slice lo q.length lc, .int .u64 (t : Int), .int .i64 k, .int .u64 (n : Int), .string Xa, .string Xb, .string Xu] 91) = W := ⟨_, rfl⟩
      have HB0 : Hid (Below wr.heap.size wr W) := Lib.hid (by rw [← hW]; exact below_new _ _)
      have hrow : RowX W bx [.slice lo q.length lc, .int .u64 (t : Int), .int .i64 k, .int .u64 (n : Int), .string Xa, .string Xb, .string Xu] := by rw [← hW, ← hbx]; exact heap_alloc_new _ _
      rw [hW, hbx]
      clear hW
      obtain ⟨D, hD⟩ : ∃ D, W.drew = D := ⟨_, rfl⟩
      have HBD : Hid (Below W.heap.size W D) := Lib.hid (by rw [← hD]; exact (Below.refl _ _).drew)
      have hS : RowX D bx [.slice lo q.length lc, .int .u64 (t : Int), .int .i64 k, .int .u64 (n : Int), .string Xa, .string Xb, .string Xu] := (HBD.out.block _ (row_lt hrow)).trans hrow
      have hne : Nonempty {w' : World // RowX w' bx [.slice lo q.length lc, .int .u64 (t : Int), .int .i64 k, .int .u64 (n : Int), .string Xa, .string Xb, .string Xu]} := ⟨⟨_, hS⟩⟩
      have HBW := Lib.hid (HB0.out.trans (HBD.out.mono HB0.out.size))
      clear hrow
      refine wp_region_seq (S := fun w' => RowX w' bx [.slice lo q.length lc, .int .u64 (t : Int), .int .i64 k, .int .u64 (n : Int), .string Xa, .string Xb, .string Xu]) [(0, true), (1, true), (2, true), (3, true), (5, true), (6, true), (7, true), (9, true), (10, true), (11, true), (4, false), (8, false), (12, false), (13, true)] (by kernel_rfl) (by kernel_rfl) (by kernel_rfl) (by kernel_rfl) (by rw [hD]; exact hS) ?_
      rw [hD]
      clear hD
      iterate 2 (refine seq_take _ rfl (fun K2 hK => ?_); go_simp; (first | refine hK _ ?_ | refine ⟨_, fun _ _ => rfl, hK _ ?_⟩); clear hK K2)
      refine seq_take _ rfl (fun K2 hK => ?_); go_simp
      refine ⟨.string Xa, fun a ha => by (have e : a.cell? ⟨bx, 4, none⟩ = some (.string Xa) := row_cell ha (j := 4) rfl); rw [e]; rfl, hK _ ?_⟩; clear hK K2
      iterate 2 (refine seq_take _ rfl (fun K2 hK => ?_); go_simp; (first | refine hK _ ?_ | refine ⟨_, fun _ _ => rfl, hK _ ?_⟩); clear hK K2)
      refine seq_take _ rfl (fun K2 hK => ?_); go_simp
      refine ⟨.string Xb, fun a ha => by (have e : a.cell? ⟨bx, 5, none⟩ = some (.string Xb) := row_cell ha (j := 5) rfl); rw [e]; rfl, hK _ ?_⟩; clear hK K2
      iterate 2 (refine seq_take _ rfl (fun K2 hK => ?_); go_simp; (first | refine hK _ ?_ | refine ⟨_, fun _ _ => rfl, hK _ ?_⟩); clear hK K2)
      refine seq_take _ rfl (fun K2 hK => ?_); go_simp
      refine ⟨.string Xu, fun a ha => by (have e : a.cell? ⟨bx, 6, none⟩ = some (.string Xu) := row_cell ha (j := 6) rfl); rw [e]; rfl, hK _ ?_⟩; clear hK K2
      iterate 1 (refine seq_take _ rfl (fun K2 hK => ?_); go_simp; (first | refine hK _ ?_ | refine ⟨_, fun _ _ => rfl, hK _ ?_⟩); clear hK K2)
      refine seq_come _ rfl (fun K2 hK => ?_); go_simp
      refine (roomtake_any rm Xa.size D HRB.out HBA.out).mono ?_; rintro e w4 ⟨rfl, r1, rfl, HR1⟩
      have HB1 := Lib.hid (HR1.out.le HRB.out)
      go_simp; refine hK.out _ _ hS ?_; clear hK K2
      refine seq_come _ rfl (fun K2 hK => ?_); go_simp
      refine (roomtake_any r1 Xb.size D HB1.out HBB.out).mono ?_; rintro e w4 ⟨rfl, r2, rfl, HR2⟩
      have HB2 := Lib.hid (HR2.out.le HB1.out)
      go_simp; refine hK.out _ _ hS ?_; clear hK K2
      refine seq_come _ rfl (fun K2 hK => ?_); go_simp
      refine (roomtake_any r2 Xu.size D HB2.out HBU.out).mono ?_; rintro e w4 ⟨rfl, r3, rfl, HR3⟩
      have HB3 := Lib.hid (HR3.out.le HB2.out)
      go_simp; refine hK.out _ _ hS ?_; clear hK K2
      refine seq_take _ rfl (fun K2 hK => ?_); go_simp; (first | refine hK _ ?_ | refine ⟨_, fun _ _ => rfl, hK _ ?_⟩); clear hK K2
      refine seq_done ?_
      have el : D.cell? ⟨bx, 0, none⟩ = some (.slice lo q.length lc) := row_cell hS (j := 0) rfl
      clear hS hne hbx
      go_wp2_with fail
      refine (roomks_any q lo lc P D 40 r3 HZL.out HLL.out HFL.out (HKR.out.below HBW.out) (by omega) HB3.out).mono ?_; rintro e w5 ⟨hb5, r9, rfl, HR9⟩
      have HBZ := Lib.hid (below_step (below_step HBR.out HBW.out) hb5)
      clear hb5 el
      go_wp2_with fail
      have hj := HJ.out
      go_roundg (gk - 1)
      case measure => omega
      case rel => exact ⟨j + 1, r9, rfl, by simp, by omega, HBZ.out, Lib.hid (by
        have h1 := (((HRM.out.then HR1.out).then HR2.out).then HR3.out).then HR9.out
        have h2 := HWX.out
        have h3 := HTK.out
        have h4 := HZA.out
        have h5 := HZB.out
        have h6 := HZU.out
        unfold RoomOk at h1 ⊢
        omega)⟩
    · have d4 : decide (rm ≥ 0) = false := decide_eq_false hrm
      have hrm1 : rm = -1 := by have := HRB.out; omega
      clear hrm
      go_wp2_with fail
      go_ret
      exact ⟨HBR.out, rm, rfl, Lib.hid (.inl hrm1)⟩
  · have hjn : j = l.length := by have := HJ.out; omega
    have HRE : Hid (RoomOk room (exsw l) rm) := Lib.hid (by have h := HRM.out; rwa [hjn, List.take_length] at h)
    clear hjn
    go_wp2_with fail
    go_ret
    exact ⟨HBR.out, rm, rfl, HRE⟩
open Go.RowKit
open Go.RowKit
theorem exsw_lwt : ∀ l : List Ex, exsw l = lwt exSb l
  | [] => by rw [exsw]; rfl
  | x :: l => by rw [exsw, lwt_cons, exsw_lwt l]; rfl
def RowN (w' : World) (g : Nat) (c : List Value) : Prop := w'.heap[g]? = some (.cells c.toArray 28 (0, 0))
theorem nu_room (x : Nu) (cs : List Value) (P : Nat → Prop) (w : World) (room : Int) (harg : nu_arg x) (hr : nuCel.R w P x cs) (hro : -1 ≤ room ∧ room ≤ 1000000) :
 Calls Tryz.prog 15 #[.agg cs.toArray, .int .i64 room] w (RmPost room (nu_wt x) w) := by
 have HRO := Lib.hid hro
 obtain ⟨⟨a, ⟨t, ⟨⟨⟨k, n⟩, es⟩, ⟨l, f⟩⟩⟩⟩, u⟩ := x
 obtain ⟨lo, lc, eo, ec, rfl, hk, he⟩ := hr
 obtain ⟨_, _, _, hfe, hze, hfl, hll, hzl, _, hzu⟩ := harg
 have HK := Lib.hid hk
 have HE := Lib.hid he
 have HFE := Lib.hid hfe
 have HZE := Lib.hid hze
 have HFL := Lib.hid hfl
 have HLL := Lib.hid hll
 have HZL := Lib.hid hzl
 have HWX : Hid (nu_wt ((a, (t, (((k, n), es), (l, f)))), u) = 20 + (lwt exSb es + ksw l + u.length)) := Lib.hid rfl
 dsimp only [strV]
 obtain ⟨Xu, hXu⟩ : ∃ X : ByteArray, (⟨u.toArray⟩ : ByteArray) = X := ⟨_, rfl⟩
 have HZU : Hid (Xu.size = u.length) := Lib.hid (by rw [← hXu]; simp [ByteArray.size])
 have HBU : Hid (Xu.size ≤ 9223372036854775807) := Lib.hid (by rw [HZU.out]; exact hzu)
 rw [hXu]
 clear hro hk he hfe hze hfl hll hzl hzu hXu
 obtain ⟨W, hW⟩ : ∃ W, w.alloc (.cells #[.slice lo l.length lc, .int .u64 (a : Int), .int .u64 (t : Int), .int .i64 k, .int .u64 (n : Int), .slice eo es.length ec, .int .u32 (f : Int), .string Xu] 28) = W := ⟨_, rfl⟩
 obtain ⟨bx, hbx⟩ : ∃ bx, w.heap.size = bx := ⟨_, rfl⟩
 have HB0 : Hid (Below w.heap.size w W) := Lib.hid (by rw [← hW]; exact below_new _ _)
 have hrow : RowN W bx [.slice lo l.length lc, .int .u64 (a : Int), .int .u64 (t : Int), .int .i64 k, .int .u64 (n : Int), .slice eo es.length ec, .int .u32 (f : Int), .string Xu] := by rw [← hW, ← hbx]; exact heap_alloc_new _ _
 have HROW := Lib.hid hrow
 have HW := Lib.hid hW
 have HBX := Lib.hid hbx
 clear hW hbx hrow
 go_enter Tryz.func15, Tryz.ntmps15
 go_wp2_with fail
 rw [HW.out, HBX.out]
 obtain ⟨D, hD⟩ : ∃ D, W.drew = D := ⟨_, rfl⟩
 have HBD : Hid (Below W.heap.size W D) := Lib.hid (by rw [← hD]; exact (Below.refl _ _).drew)
 have hS : RowN D bx [.slice lo l.length lc, .int .u64 (a : Int), .int .u64 (t : Int), .int .i64 k, .int .u64 (n : Int), .slice eo es.length ec, .int .u32 (f : Int), .string Xu] := (HBD.out.block _ (row_lt HROW.out)).trans HROW.out
 have hne : Nonempty {w' : World // RowN w' bx [.slice lo l.length lc, .int .u64 (a : Int), .int .u64 (t : Int), .int .i64 k, .int .u64 (n : Int), .slice eo es.length ec, .int .u32 (f : Int), .string Xu]} := ⟨⟨_, hS⟩⟩
 have HBW := Lib.hid (below_step HB0.out HBD.out)
 refine wp_region_seq (S := fun w' => RowN w' bx [.slice lo l.length lc, .int .u64 (a : Int), .int .u64 (t : Int), .int .i64 k, .int .u64 (n : Int), .slice eo es.length ec, .int .u32 (f : Int), .string Xu]) [(0, true), (1, true), (2, true), (3, true), (4, true), (5, true), (6, true), (7, true), (8, false), (9, false), (10, false), (11, true)] (by kernel_rfl) (by kernel_rfl) (by kernel_rfl) (by kernel_rfl) (by rw [hD]; exact hS) ?_
 rw [hD]
 clear hD
 (refine seq_take _ rfl (fun K2 hK => ?_); go_simp; (first | refine hK _ ?_ | refine ⟨_, fun _ _ => rfl, hK _ ?_⟩); clear hK K2)
 refine seq_take _ rfl (fun K2 hK => ?_); go_simp
 refine ⟨.slice eo es.length ec, fun a ha => by (have e : a.cell? ⟨bx, 5, none⟩ = some (.slice eo es.length ec) := row_cell ha (j := 5) rfl); rw [e]; rfl, hK _ ?_⟩; clear hK K2
 (refine seq_take _ rfl (fun K2 hK => ?_); go_simp; (first | refine hK _ ?_ | refine ⟨_, fun _ _ => rfl, hK _ ?_⟩); clear hK K2)
 refine seq_take _ rfl (fun K2 hK => ?_); go_simp
 refine ⟨.slice lo l.length lc, fun a ha => by (have e : a.cell? ⟨bx, 0, none⟩ = some (.slice lo l.length lc) := row_cell ha (j := 0) rfl); rw [e]; rfl, hK _ ?_⟩; clear hK K2
 iterate 2 (refine seq_take _ rfl (fun K2 hK => ?_); go_simp; (first | refine hK _ ?_ | refine ⟨_, fun _ _ => rfl, hK _ ?_⟩); clear hK K2)
 refine seq_take _ rfl (fun K2 hK => ?_); go_simp
 refine ⟨.string Xu, fun a ha => by (have e : a.cell? ⟨bx, 7, none⟩ = some (.string Xu) := row_cell ha (j := 7) rfl); rw [e]; rfl, hK _ ?_⟩; clear hK K2
 (refine seq_take _ rfl (fun K2 hK => ?_); go_simp; (first | refine hK _ ?_ | refine ⟨_, fun _ _ => rfl, hK _ ?_⟩); clear hK K2)
 refine seq_come _ rfl (fun K2 hK => ?_); go_simp
 refine (roomtake_any room Xu.size D HRO.out HBU.out).mono ?_; rintro e w4 ⟨rfl, r1, rfl, HR1⟩
 have HB1 := Lib.hid (HR1.out.le HRO.out)
 go_simp; refine hK.out _ _ hS ?_; clear hK K2
 refine seq_come _ rfl (fun K2 hK => ?_); go_simp
 refine (roomks_any l lo lc P D 40 r1 HZL.out HLL.out HFL.out (HK.out.below HBW.out) (by omega) HB1.out).mono ?_; rintro e w5 ⟨hb5, r2, rfl, HR2⟩
 have HB2 := Lib.hid (HR2.out.le HB1.out)
 have hS5 : RowN w5 bx [.slice lo l.length lc, .int .u64 (a : Int), .int .u64 (t : Int), .int .i64 k, .int .u64 (n : Int), .slice eo es.length ec, .int .u32 (f : Int), .string Xu] := (hb5.block _ (row_lt hS)).trans hS
 have HBV := Lib.hid (below_step HBW.out hb5)
 go_simp; refine hK.out _ _ hS5 ?_; clear hK K2 hb5
 refine seq_come _ rfl (fun K2 hK => ?_); go_simp
 refine (exrooms_any es eo ec P w5 r2 HZE.out HFE.out (HE.out.below HBV.out) HB2.out).mono ?_; rintro e w6 ⟨hb6, r3, rfl, HR3⟩
 have hS6 : RowN w6 bx [.slice lo l.length lc, .int .u64 (a : Int), .int .u64 (t : Int), .int .i64 k, .int .u64 (n : Int), .slice eo es.length ec, .int .u32 (f : Int), .string Xu] := (hb6.block _ (row_lt hS5)).trans hS5
 have HBZ := Lib.hid (below_step HBV.out hb6)
 go_simp; refine hK.out _ _ hS6 ?_; clear hK K2 hb6
 (refine seq_take _ rfl (fun K2 hK => ?_); go_simp; (first | refine hK _ ?_ | refine ⟨_, fun _ _ => rfl, hK _ ?_⟩); clear hK K2)
 refine seq_done ?_
 clear hS hS5 hS6 hne
 go_wp2_with fail
 go_ret
 exact ⟨HBZ.out, r3, rfl, Lib.hid (by
  have h1 := (HR1.out.then HR2.out).then HR3.out
  rw [exsw_lwt] at h1
  have h2 := HWX.out
  have h3 := HZU.out
  unfold RoomOk at h1 ⊢
  omega)⟩
open Go.RowKit
theorem nuwr_F (x : Nu) (cs : List Value) (P : Nat → Prop) (d : Int) (w : World) (ha : nu_arg x) (hr : nuCel.R w P x cs) (hd : -9223372036854775808 ≤ d ∧ d ≤ 9223372036854775807) (hg : Glob w) (hm : nu_may d x = false) :
 Calls Tryz.prog 4 #[.agg cs.toArray, .int .i64 d] w fun e w' => e = .returned (.bool true) ∧ Below w.heap.size w w' := by
 obtain ⟨⟨a, ⟨t, ⟨⟨⟨k, n⟩, es⟩, ⟨l, f⟩⟩⟩⟩, u⟩ := x
 have hs := hr
 obtain ⟨lo1, lc1, eo1, ec1, rfl, _, _⟩ := hs
 dsimp only [strV]
 obtain ⟨Xu, eu⟩ : ∃ X : ByteArray, (⟨u.toArray⟩ : ByteArray) = X := ⟨_, rfl⟩
 have HNu := Lib.hid eu
 clear eu
 rw [HNu.out]
 have HARG := Lib.hid ha
 have HDX := Lib.hid hd
 have HMX := Lib.hid hm
 have HGX := Lib.hid hg
 have hb : Below w.heap.size w w := Below.refl _ _
 have H1 := Lib.hid (Fx.nil w)
 have H2 := Lib.hid (H1.out.base (hb))
 clear H1
 clear hb
 have H3 := Lib.hid (H2.out.cel (hr))
 clear H2
 clear hr hd hm ha hg
 go_enter Tryz.func4, Tryz.ntmps4
 go_upto_region 1 with fail
 obtain ⟨blr1, hbl⟩ : ∃ b, w.heap.size = b := ⟨_, rfl⟩
 obtain ⟨W1, hW⟩ : ∃ W, w.alloc (.cells #[.slice lo1 l.length lc1, .int .u64 (a : Int), .int .u64 (t : Int), .int .i64 k, .int .u64 (n : Int), .slice eo1 es.length ec1, .int .u32 (f : Int), .string Xu] 28) = W := ⟨_, rfl⟩
 have hb : Below w.heap.size w W1 := by rw [← hW]; exact below_new _ _
 have hr : W1.heap[blr1]? = some (.cells #[.slice lo1 l.length lc1, .int .u64 (a : Int), .int .u64 (t : Int), .int .i64 k, .int .u64 (n : Int), .slice eo1 es.length ec1, .int .u32 (f : Int), .string Xu] 28 (0, 0)) := by rw [← hW, ← hbl]; exact new_row _ _ _
 rw [hW, hbl]
 clear hW hbl
 have H4 := Lib.hid (H3.out.below hb)
 clear hb H3
 have H5 := Lib.hid (H4.out.row (hr))
 clear H4
 clear hr
 go_wp2_with fail
 refine (first12 W1).mono ?_; rintro e w1 ⟨rfl, hb⟩
 have H6 := Lib.hid (H5.out.below hb)
 clear hb H5
 obtain ⟨xa0, xa1, xa2, xa3, xa4, xa5, xa6, xa7⟩ := row8 (H6.out.is.1)
 go_wp2_with fail
 refine (nu_room ((a, (t, (((k, n), es), (l, f)))), u) [.slice lo1 l.length lc1, .int .u64 (a : Int), .int .u64 (t : Int), .int .i64 k, .int .u64 (n : Int), .slice eo1 es.length ec1, .int .u32 (f : Int), .string Xu] _ w1 12000 HARG.out (by rw [← HNu.out]; exact H6.out.is.2.1) (by omega)).mono ?_; intro e w2 hpost
 obtain ⟨hb, r, rfl, HR⟩ := hpost
 clear xa0 xa1 xa2 xa3 xa4 xa5 xa6 xa7
 have H7 := Lib.hid (H6.out.below hb)
 clear hb H6
 by_cases hr0 : r < 0
 case pos =>
  have d1 : decide (r < 0) = true := decide_eq_true hr0
  clear hr0 HR
  go_wp2_with fail
  refine (first12 w2).mono ?_; rintro e w9 ⟨rfl, hb⟩
  have H8 := Lib.hid (H7.out.below hb)
  clear hb H7
  go_wp2_with fail
  go_ret
  exact ⟨rfl, H8.out.is.2.2.1⟩
 have d1 : decide (r < 0) = false := decide_eq_false hr0
 have HW := Lib.hid (show nu_wt ((a, (t, (((k, n), es), (l, f)))), u) ≤ 12000 by have h := HR.out; unfold RoomOk at h; omega)
 have HRF := Lib.hid (nu_fit_of HARG.out HW.out)
 clear HR hr0
 obtain ⟨xa0, xa1, xa2, xa3, xa4, xa5, xa6, xa7⟩ := row8 (H7.out.is.1)
 go_wp2_with fail
 refine (nu_rmay ((a, (t, (((k, n), es), (l, f)))), u) [.slice lo1 l.length lc1, .int .u64 (a : Int), .int .u64 (t : Int), .int .i64 k, .int .u64 (n : Int), .slice eo1 es.length ec1, .int .u32 (f : Int), .string Xu] _ d w2 HARG.out HW.out (by rw [← HNu.out]; exact H7.out.is.2.1) HDX.out).mono ?_; rintro e w3 ⟨rfl, hb⟩
 rw [HMX.out]
 clear xa0 xa1 xa2 xa3 xa4 xa5 xa6 xa7
 have H8 := Lib.hid (H7.out.below hb)
 clear hb H7
 obtain ⟨xa0, xa1, xa2, xa3, xa4, xa5, xa6, xa7⟩ := row8 (H8.out.is.1)
 go_wp2_with fail
 refine (nu_marshal ((a, (t, (((k, n), es), (l, f)))), u) [.slice lo1 l.length lc1, .int .u64 (a : Int), .int .u64 (t : Int), .int .i64 k, .int .u64 (n : Int), .slice eo1 es.length ec1, .int .u32 (f : Int), .string Xu] _ d w3 HRF.out (by rw [← HNu.out]; exact H8.out.is.2.1) HDX.out).mono ?_; rintro e w4 ⟨hb, hcase⟩
 clear xa0 xa1 xa2 xa3 xa4 xa5 xa6 xa7
 have H9 := Lib.hid (H8.out.below hb)
 clear hb H8
 rw [HMX.out, if_neg (by simp)] at hcase
 obtain ⟨v, rfl, hec⟩ := hcase
 obtain ⟨T', y, rfl⟩ := hec.iface
 have H10 := Lib.hid (H9.out.ec (hec))
 clear H9
 clear hec
 obtain ⟨xa0, xa1, xa2, xa3, xa4, xa5, xa6, xa7⟩ := row8 (H10.out.is.2.1)
 go_wp2_with fail
 refine (nu_mayc ((a, (t, (((k, n), es), (l, f)))), u) [.slice lo1 l.length lc1, .int .u64 (a : Int), .int .u64 (t : Int), .int .i64 k, .int .u64 (n : Int), .slice eo1 es.length ec1, .int .u32 (f : Int), .string Xu] _ d w4 HRF.out (by rw [← HNu.out]; exact H10.out.is.2.2.1) HDX.out).mono ?_; rintro e w5 ⟨rfl, hb⟩
 rw [HMX.out]
 clear xa0 xa1 xa2 xa3 xa4 xa5 xa6 xa7
 have H11 := Lib.hid (H10.out.below hb)
 clear hb H10
 go_wp2_with fail
 refine (first12 w5).mono ?_; rintro e w6 ⟨rfl, hb⟩
 have H12 := Lib.hid (H11.out.below hb)
 clear hb H11
 go_wp2_with fail
 obtain ⟨ws, he⟩ := H12.out.is.1
 refine (code_any ws _ _ w6 he (root_code _) (HGX.out.below (H12.out.is.2.2.2.1))).mono ?_; rintro e w7 ⟨rfl, hb⟩
 rw [show codeOf (codeV ((8 : Nat) : Int)) = 8 from rfl]
 have H13 := Lib.hid (H12.out.below hb)
 clear hb H12
 clear he
 go_wp2_with fail
 go_ret
 exact ⟨rfl, H13.out.is.2.2.2.1⟩
theorem nuwr_T (x : Nu) (cs : List Value) (P : Nat → Prop) (d : Int) (w : World) (ha : nu_arg x) (hr : nuCel.R w P x cs) (hd : -9223372036854775808 ≤ d ∧ d ≤ 9223372036854775807) (hg : Glob w) (hm : nu_may d x = true) :
 Calls Tryz.prog 4 #[.agg cs.toArray, .int .i64 d] w fun e w' => e = .returned (.bool true) ∧ Below w.heap.size w w' := by
 obtain ⟨⟨a, ⟨t, ⟨⟨⟨k, n⟩, es⟩, ⟨l, f⟩⟩⟩⟩, u⟩ := x
 have hs := hr
 obtain ⟨lo1, lc1, eo1, ec1, rfl, _, _⟩ := hs
 dsimp only [strV]
 obtain ⟨Xu, eu⟩ : ∃ X : ByteArray, (⟨u.toArray⟩ : ByteArray) = X := ⟨_, rfl⟩
 have HNu := Lib.hid eu
 clear eu
 rw [HNu.out]
 have HARG := Lib.hid ha
 have HDX := Lib.hid hd
 have HMX := Lib.hid hm
 have HGX := Lib.hid hg
 have hb : Below w.heap.size w w := Below.refl _ _
 have H1 := Lib.hid (Fx.nil w)
 have H2 := Lib.hid (H1.out.base (hb))
 clear H1
 clear hb
 have H3 := Lib.hid (H2.out.cel (hr))
 clear H2
 clear hr hd hm ha hg
 go_enter Tryz.func4, Tryz.ntmps4
 go_upto_region 1 with fail
 obtain ⟨blr1, hbl⟩ : ∃ b, w.heap.size = b := ⟨_, rfl⟩
 obtain ⟨W1, hW⟩ : ∃ W, w.alloc (.cells #[.slice lo1 l.length lc1, .int .u64 (a : Int), .int .u64 (t : Int), .int .i64 k, .int .u64 (n : Int), .slice eo1 es.length ec1, .int .u32 (f : Int), .string Xu] 28) = W := ⟨_, rfl⟩
 have hb : Below w.heap.size w W1 := by rw [← hW]; exact below_new _ _
 have hr : W1.heap[blr1]? = some (.cells #[.slice lo1 l.length lc1, .int .u64 (a : Int), .int .u64 (t : Int), .int .i64 k, .int .u64 (n : Int), .slice eo1 es.length ec1, .int .u32 (f : Int), .string Xu] 28 (0, 0)) := by rw [← hW, ← hbl]; exact new_row _ _ _
 rw [hW, hbl]
 clear hW hbl
 have H4 := Lib.hid (H3.out.below hb)
 clear hb H3
 have H5 := Lib.hid (H4.out.row (hr))
 clear H4
 clear hr
 go_wp2_with fail
 refine (first12 W1).mono ?_; rintro e w1 ⟨rfl, hb⟩
 have H6 := Lib.hid (H5.out.below hb)
 clear hb H5
 obtain ⟨xa0, xa1, xa2, xa3, xa4, xa5, xa6, xa7⟩ := row8 (H6.out.is.1)
 go_wp2_with fail
 refine (nu_room ((a, (t, (((k, n), es), (l, f)))), u) [.slice lo1 l.length lc1, .int .u64 (a : Int), .int .u64 (t : Int), .int .i64 k, .int .u64 (n : Int), .slice eo1 es.length ec1, .int .u32 (f : Int), .string Xu] _ w1 12000 HARG.out (by rw [← HNu.out]; exact H6.out.is.2.1) (by omega)).mono ?_; intro e w2 hpost
 obtain ⟨hb, r, rfl, HR⟩ := hpost
 clear xa0 xa1 xa2 xa3 xa4 xa5 xa6 xa7
 have H7 := Lib.hid (H6.out.below hb)
 clear hb H6
 by_cases hr0 : r < 0
 case pos =>
  have d1 : decide (r < 0) = true := decide_eq_true hr0
  clear hr0 HR
  go_wp2_with fail
  refine (first12 w2).mono ?_; rintro e w9 ⟨rfl, hb⟩
  have H8 := Lib.hid (H7.out.below hb)
  clear hb H7
  go_wp2_with fail
  go_ret
  exact ⟨rfl, H8.out.is.2.2.1⟩
 have d1 : decide (r < 0) = false := decide_eq_false hr0
 have HW := Lib.hid (show nu_wt ((a, (t, (((k, n), es), (l, f)))), u) ≤ 12000 by have h := HR.out; unfold RoomOk at h; omega)
 have HRF := Lib.hid (nu_fit_of HARG.out HW.out)
 clear HR hr0
 obtain ⟨xa0, xa1, xa2, xa3, xa4, xa5, xa6, xa7⟩ := row8 (H7.out.is.1)
 go_wp2_with fail
 refine (nu_rmay ((a, (t, (((k, n), es), (l, f)))), u) [.slice lo1 l.length lc1, .int .u64 (a : Int), .int .u64 (t : Int), .int .i64 k, .int .u64 (n : Int), .slice eo1 es.length ec1, .int .u32 (f : Int), .string Xu] _ d w2 HARG.out HW.out (by rw [← HNu.out]; exact H7.out.is.2.1) HDX.out).mono ?_; rintro e w3 ⟨rfl, hb⟩
 rw [HMX.out]
 clear xa0 xa1 xa2 xa3 xa4 xa5 xa6 xa7
 have H8 := Lib.hid (H7.out.below hb)
 clear hb H7
 obtain ⟨xa0, xa1, xa2, xa3, xa4, xa5, xa6, xa7⟩ := row8 (H8.out.is.1)
 go_wp2_with fail
 refine (nu_marshal ((a, (t, (((k, n), es), (l, f)))), u) [.slice lo1 l.length lc1, .int .u64 (a : Int), .int .u64 (t : Int), .int .i64 k, .int .u64 (n : Int), .slice eo1 es.length ec1, .int .u32 (f : Int), .string Xu] _ d w3 HRF.out (by rw [← HNu.out]; exact H8.out.is.2.1) HDX.out).mono ?_; rintro e w4 ⟨hb, hcase⟩
 clear xa0 xa1 xa2 xa3 xa4 xa5 xa6 xa7
 have H9 := Lib.hid (H8.out.below hb)
 clear hb H8
 rw [HMX.out, if_pos rfl] at hcase
 subst hcase
 obtain ⟨SS, hSS⟩ : ∃ S : ByteArray, (⟨(nu_out ((a, (t, (((k, n), es), (l, f)))), u)).toArray⟩ : ByteArray) = S := ⟨_, rfl⟩
 have HSS := Lib.hid hSS
 have HSZ : Hid (SS.size = (nu_out ((a, (t, (((k, n), es), (l, f)))), u)).length) := Lib.hid (by rw [← hSS]; simp [ByteArray.size])
 rw [hSS]
 clear hSS
 obtain ⟨xa0, xa1, xa2, xa3, xa4, xa5, xa6, xa7⟩ := row8 (H9.out.is.1)
 go_wp2_with fail
 refine (nu_mayc ((a, (t, (((k, n), es), (l, f)))), u) [.slice lo1 l.length lc1, .int .u64 (a : Int), .int .u64 (t : Int), .int .i64 k, .int .u64 (n : Int), .slice eo1 es.length ec1, .int .u32 (f : Int), .string Xu] _ d w4 HRF.out (by rw [← HNu.out]; exact H9.out.is.2.1) HDX.out).mono ?_; rintro e w5 ⟨rfl, hb⟩
 rw [HMX.out]
 clear xa0 xa1 xa2 xa3 xa4 xa5 xa6 xa7
 have H10 := Lib.hid (H9.out.below hb)
 clear hb H9
 go_wp2_with fail
 refine (first12 w5).mono ?_; rintro e w6 ⟨rfl, hb⟩
 have H11 := Lib.hid (H10.out.below hb)
 clear hb H10
 obtain ⟨xa0, xa1, xa2, xa3, xa4, xa5, xa6, xa7⟩ := row8 (H11.out.is.1)
 go_wp2_with fail
 refine (nu_rout ((a, (t, (((k, n), es), (l, f)))), u) [.slice lo1 l.length lc1, .int .u64 (a : Int), .int .u64 (t : Int), .int .i64 k, .int .u64 (n : Int), .slice eo1 es.length ec1, .int .u32 (f : Int), .string Xu] _ d w6 HARG.out HW.out (by rw [← HNu.out]; exact H11.out.is.2.1) HMX.out).mono ?_; rintro e w7 ⟨rfl, hb⟩
 rw [HSS.out]
 clear xa0 xa1 xa2 xa3 xa4 xa5 xa6 xa7
 have H12 := Lib.hid (H11.out.below hb)
 clear hb H11
 obtain ⟨xa0, xa1, xa2, xa3, xa4, xa5, xa6, xa7⟩ := row8 (H12.out.is.1)
 go_wp2_with fail
 refine (nu_size ((a, (t, (((k, n), es), (l, f)))), u) [.slice lo1 l.length lc1, .int .u64 (a : Int), .int .u64 (t : Int), .int .i64 k, .int .u64 (n : Int), .slice eo1 es.length ec1, .int .u32 (f : Int), .string Xu] _ w7 HRF.out (by rw [← HNu.out]; exact H12.out.is.2.1) (nu_enough HW.out HMX.out)).mono ?_; rintro e w8 ⟨rfl, hb⟩
 rw [← HSZ.out]
 clear xa0 xa1 xa2 xa3 xa4 xa5 xa6 xa7
 have H13 := Lib.hid (H12.out.below hb)
 clear hb H12
 go_wp2_with fail
 go_ret
 exact ⟨rfl, H13.out.is.2.2.1⟩
theorem nuwr_any (x : Nu) (cs : List Value) (P : Nat → Prop) (d : Int) (w : World) (ha : nu_arg x) (hr : nuCel.R w P x cs) (hd : -9223372036854775808 ≤ d ∧ d ≤ 9223372036854775807) (hg : Glob w) :
 Calls Tryz.prog 4 #[.agg cs.toArray, .int .i64 d] w fun e w' => e = .returned (.bool true) ∧ Below w.heap.size w w' := by
 cases hm : nu_may d x with
 | false => exact nuwr_F x cs P d w ha hr hd hg hm
 | true => exact nuwr_T x cs P d w ha hr hd hg hm
end Go.Proofs.YtjbingoliffjiaaGreatDoor
