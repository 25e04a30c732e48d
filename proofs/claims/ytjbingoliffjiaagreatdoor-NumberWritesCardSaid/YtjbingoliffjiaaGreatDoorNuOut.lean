/-
  ExLOut, PutsV, NuTab, NuOut
-/
import Derived.Test.YtjbingoliffjiaaGreatDoorExOut
import Derived.Test.YtjbingoliffjiaaGreatDoorExSub
import Derived.Test.YtjbingoliffjiaaGreatDoorPuts
import Derived.Test.YtjbingoliffjiaaGreatDoorRefMsg
import Derived.Test.YtjbingoliffjiaaGreatDoorNuBack
set_option maxRecDepth 1000000
set_option maxHeartbeats 16000000
namespace Go.Proofs.YtjbingoliffjiaaGreatDoor
open Go.RowKit
theorem lmays_ex (d : Int) (_ : 0 ≤ d) (l : List Ex) : (l.all fun x => ex_may (d - 1) x) = lmays exSb l d := by
  unfold lmays
  congr 1
  funext x
  exact (ex_may_neg x (d - 1)).trans (congrArg (· && ex_may (d - 1) x) (decide_eq_decide.2 (by omega)))
theorem mayexs8_any (l : List Ex) (lo : Option Addr) (lc : Nat) (Q : Nat → Prop) (w : World) (d : Int) (hfit : ∀ x ∈ l, ex_fit x) (hw : lwt exSb l ≤ 12000) (ha : CRels exCel w Q l lo) (hd : -9223372036854775808 ≤ d ∧ d ≤ 9223372036854775807) :
 Calls Tryz.prog 60 #[.slice lo l.length lc, .int .i64 d] w fun e w' => e = .returned (.bool (l.all fun x => ex_may d x)) ∧ Below w.heap.size w w' := by
 have HA := Lib.hid ha
 have HFIT := Lib.hid hfit
 have HWT := Lib.hid hw
 have HD := Lib.hid hd
 have hlen : l.length ≤ 12000 := by have := exs_len l; omega
 obtain ⟨r, HR⟩ : ∃ r, Hid ((l.all fun x => ex_may d x) = r) := ⟨_, Lib.hid rfl⟩
 rw [HR.out]
 clear ha hfit hw hd
 go_enter Tryz.func60, Tryz.ntmps60
 go_wp2_with fail
 go_loopg [5] l.length (fun k i wr => ∃ j : Nat, i = .int .i64 (j : Int) ∧ j + k = l.length ∧ Below w.heap.size w wr ∧ Hid (((l.take j).all fun x => ex_may d x) = true))
 case atStart => exact ⟨0, rfl, by omega, Below.refl _ _, Lib.hid rfl⟩
 case round =>
  obtain ⟨j, rfl, hj, hbr, HAL⟩ := hrel
  have HBR := Lib.hid hbr
  have HJ := Lib.hid hj
  clear hbr hj
  by_cases hlt : j < l.length
  · obtain ⟨ga, oa, ca, rfl, _, hga, hca, hra⟩ := (HA.out.below HBR.out) j hlt
    have hca : Cells wr ga (oa + 7 * j) ca := hca
    have HRA := Lib.hid hra
    obtain ⟨lo, llo, lc, jt, jk, jn, Xa, Xb, Xu, rfl⟩ := ExRel.form hra
    have HCA := Lib.hid hca
    clear hra hca
    obtain ⟨ea0, ea1, ea2, ea3, ea4, ea5, ea6⟩ := cells7 HCA.out
    go_wp2_with fail
    refine (ex_rmay l[j] [.slice lo llo lc, .int .u64 jt, .int .i64 jk, .int .u64 jn, .string Xa, .string Xb, .string Xu] Q d wr (ex_arg_ofx (HFIT.out _ (List.getElem_mem hlt))) (exs_wt_le (List.getElem_mem hlt) HWT.out) HRA.out HD.out).mono ?_; rintro e w4 ⟨rfl, hb4⟩
    obtain ⟨bb, hbb⟩ : ∃ bb, ex_may d l[j] = bb := ⟨_, rfl⟩
    have HBB := Lib.hid hbb
    rw [hbb]
    clear hbb ea0 ea1 ea2 ea3 ea4 ea5 ea6
    have HBW := Lib.hid (below_step HBR.out hb4)
    clear hb4
    cases bb with
    | true =>
      go_wp2_with fail
      have hj := HJ.out
      go_roundg (gk - 1)
      case measure => omega
      case rel => exact ⟨j + 1, by simp, by omega, HBW.out, Lib.hid (by rw [List.take_succ_eq_append_getElem hlt, List.all_append, HAL.out]; simp [HBB.out])⟩
    | false =>
      have hr : r = false := by
        rw [← HR.out, List.all_eq_false]
        exact ⟨l[j], List.getElem_mem hlt, by rw [HBB.out]; simp⟩
      subst hr
      go_wp2_with fail
      go_ret
      exact ⟨rfl, HBW.out⟩
  · have hjn : j = l.length := by have := HJ.out; omega
    have hr : r = true := by
      rw [← HR.out]
      have h := HAL.out
      rwa [hjn, List.take_length] at h
    subst hr
    clear hjn
    go_wp2_with fail
    go_ret
    exact ⟨rfl, HBR.out⟩
theorem putexs8_any (l : List Ex) (num : Nat) (lo : Option Addr) (lc : Nat) (Q : Nat → Prop) (w : World) (d : Int) (hnum : 1 ≤ num ∧ num ≤ 15) (hfit : ∀ x ∈ l, ex_fit x) (hw : lwt exSb l ≤ 12000) (ha : CRels exCel w Q l lo) (hm : lmays exSb l d = true) :
 Calls Tryz.prog 77 #[.int .i64 (num : Int), .slice lo l.length lc] w (RoPost (louts exSb num l) w) := by
 have HA := Lib.hid ha
 have HFIT := Lib.hid hfit
 have HWT := Lib.hid hw
 have HNUM := Lib.hid hnum
 have HMM : Hid (∀ x ∈ l, ex_may (d - 1) x = true) := Lib.hid (fun x hx => by
  have h := List.all_eq_true.1 hm x hx
  rw [Bool.and_eq_true] at h
  exact h.2)
 have hlen : l.length ≤ 12000 := by have := exs_len l; omega
 clear ha hfit hw hm hnum
 go_enter Tryz.func77, Tryz.ntmps77
 go_wp2_with fail
 go_loopg [5, 6] l.length (fun k s i wr => ∃ (j : Nat) (SS : ByteArray), s = .string SS ∧ i = .int .i64 (j : Int) ∧ j + k = l.length ∧ Below w.heap.size w wr ∧ Hid (SS.data.toList = louts exSb num (l.take j)))
 case atStart => exact ⟨0, _, rfl, rfl, by omega, Below.refl _ _, Lib.hid rfl⟩
 case round =>
  obtain ⟨j, SS, rfl, rfl, hj, hbr, HSS⟩ := hrel
  have HBR := Lib.hid hbr
  have HJ := Lib.hid hj
  clear hbr hj
  by_cases hlt : j < l.length
  · obtain ⟨ga, oa, ca, rfl, _, hga, hca, hra⟩ := (HA.out.below HBR.out) j hlt
    have hca : Cells wr ga (oa + 7 * j) ca := hca
    have HRA := Lib.hid hra
    obtain ⟨lo, llo, lc, jt, jk, jn, Xa, Xb, Xu, rfl⟩ := ExRel.form hra
    have HCA := Lib.hid hca
    have HZS : Hid (SS.size ≤ 12000) := Lib.hid (by
     have h1 : SS.size = SS.data.toList.length := by simp
     have h2 := exs_olen HNUM.out (l.take j)
     have h3 := lwt_at (S := exSb) hlt
     have h4 := HWT.out
     rw [HSS.out] at h1
     omega)
    clear hra hca
    have HWX : Hid ((ex_out l[j]).length ≤ 13000) := Lib.hid (by have := ex_wlen l[j]; have := exs_wt_le (List.getElem_mem hlt) HWT.out; omega)
    obtain ⟨ea0, ea1, ea2, ea3, ea4, ea5, ea6⟩ := cells7 HCA.out
    go_wp2_with fail
    refine (ex_rout l[j] [.slice lo llo lc, .int .u64 jt, .int .i64 jk, .int .u64 jn, .string Xa, .string Xb, .string Xu] Q (d - 1) wr (ex_arg_ofx (HFIT.out _ (List.getElem_mem hlt))) (exs_wt_le (List.getElem_mem hlt) HWT.out) HRA.out (HMM.out _ (List.getElem_mem hlt))).mono ?_; rintro e w4 ⟨rfl, hb4⟩
    obtain ⟨OO, hOO⟩ : ∃ X : ByteArray, (⟨(ex_out l[j]).toArray⟩ : ByteArray) = X := ⟨_, rfl⟩
    have HOO : Hid (OO.data.toList = ex_out l[j]) := Lib.hid (by rw [← hOO])
    rw [hOO]
    clear hOO ea0 ea1 ea2 ea3 ea4 ea5 ea6
    have HB4 := Lib.hid hb4
    clear hb4
    go_wp2_with fail
    refine (rbytes_raw num OO (ex_out l[j]) w4 HNUM.out.1 (by have := HNUM.out; omega) HOO.out (by have := HWX.out; omega)).mono ?_; rintro e w5 ⟨hb5, R, rfl, HRR⟩
    have HBW := Lib.hid (below_step HBR.out (below_step HB4.out hb5))
    clear hb5
    have hov : ¬ 9223372036854775807 < SS.size + R.size := by
     have h1 : R.size = R.data.toList.length := by simp
     have h2 := rB_len20 num (ex_out l[j])
     have h3 := HWX.out
     have h4 := HZS.out
     rw [HRR.out] at h1
     omega
    go_wp2_with fail
    have hj := HJ.out
    go_roundg (gk - 1)
    case measure => omega
    case rel => exact ⟨j + 1, SS ++ R, rfl, by simp, by omega, HBW.out, Lib.hid (by rw [ByteArray.data_append, Array.toList_append, HSS.out, HRR.out, List.take_succ_eq_append_getElem hlt, louts_app, louts_one]; rfl)⟩
  · have hjn : j = l.length := by have := HJ.out; omega
    have HSE : Hid (SS.data.toList = louts exSb num l) := Lib.hid (by have h := HSS.out; rwa [hjn, List.take_length] at h)
    clear hjn
    go_wp2_with fail
    go_ret
    exact ⟨HBR.out, SS, rfl, HSE⟩
theorem kmays_enm {l : List KV} {d e : Int} (he : 190000 ≤ e) (hw : ksw l ≤ 100000) (h : kmays l d = true) : kmays l e = true := by
  induction l with
  | nil => rw [kmays]
  | cons x l ih =>
    rw [kmays] at h ⊢
    rw [ksw] at hw
    simp only [Bool.and_eq_true, decide_eq_true_eq] at h ⊢
    exact ⟨⟨by omega, kmay_enough x _ _ h.1.2 (by omega)⟩, ih (by omega) h.2⟩
theorem ex_enm {x : Ex} {d e : Int} (he : 200000 ≤ e) (hw : ex_wt x ≤ 12000) (hm : ex_may d x = true) : ex_may e x = true := by
  obtain ⟨⟨t, ⟨⟨⟨k, n⟩, ⟨a, b⟩⟩, l⟩⟩, u⟩ := x
  have hw : 60 + (a.length + b.length + ksw l + u.length) ≤ 12000 := hw
  have h : (decide (0 ≤ d) && ((decide (k = 0 ∧ n = 0 ∨ k = 1 ∨ k = 2) && kmays l d) && munkOk exF.tk u d)) = true := hm
  show (decide (0 ≤ e) && ((decide (k = 0 ∧ n = 0 ∨ k = 1 ∨ k = 2) && kmays l e) && munkOk exF.tk u e)) = true
  simp only [Bool.and_eq_true, decide_eq_true_eq] at h ⊢
  exact ⟨by omega, ⟨h.2.1.1, kmays_enm (by omega) (by omega) h.2.1.2⟩, munkOk_enough (by omega) h.2.2⟩
theorem exs_enm {l : List Ex} {d e : Int} (he : 200001 ≤ e) (hw : lwt exSb l ≤ 12000) (h : lmays exSb l d = true) : lmays exSb l e = true := by
  unfold lmays at h ⊢
  rw [List.all_eq_true] at h ⊢
  intro x hx
  have h1 := h x hx
  rw [Bool.and_eq_true, decide_eq_true_eq] at h1 ⊢
  exact ⟨by omega, ex_enm (by omega) (exs_wt_le hx hw) h1.2⟩
open Go.RowKit
theorem wvarP_rawx (num : Nat) (h1 : 1 ≤ num) (h2 : num ≤ 536870911) (n : Nat) : (wvarP num n).flatten = if n = 0 then [] else (rN num n).raw := by
  unfold wvarP
  split
  · rfl
  · have e := wrec_raw (num := num) (ty := 0) h1 h2 (by omega) (vput n)
    have e2 : wrec (num : Int) 0 (vput n) = (rN num n).raw := e
    rw [e2]
    simp
theorem putvar8r_any (num n : Nat) (w : World) (h1 : 1 ≤ num) (h2 : num ≤ 536870911) (hn : n < 2 ^ 64) : Calls Tryz.prog 79 #[.int .i64 (num : Int), .int .u64 (n : Int)] w (RoPost (if n = 0 then [] else (rN num n).raw) w) :=
  (putvar8_any num n w h2 hn).mono fun _ _ h => ⟨h.2, _, h.1, Lib.hid (wvarP_rawx num h1 h2 n)⟩
open Go.RowKit
theorem nats_tab7 (w : World) (a0 a1 a2 a3 a4 a5 a6 : Nat) : Nats .i64 (w.alloc (.cells #[.int .i64 (a0 : Int), .int .i64 (a1 : Int), .int .i64 (a2 : Int), .int .i64 (a3 : Int), .int .i64 (a4 : Int), .int .i64 (a5 : Int), .int .i64 (a6 : Int)] 3)) (some ⟨w.heap.size, 0, none⟩) [a0, a1, a2, a3, a4, a5, a6] := by
  intro _
  refine ⟨w.heap.size, 0, rfl, by simp, fun j hj => ?_⟩
  have : j = 0 ∨ j = 1 ∨ j = 2 ∨ j = 3 ∨ j = 4 ∨ j = 5 ∨ j = 6 := by simp at hj; omega
  rcases this with rfl | rfl | rfl | rfl | rfl | rfl | rfl
  · exact row_cell (heap_alloc_new w _) (j := 0) rfl
  · exact row_cell (heap_alloc_new w _) (j := 1) rfl
  · exact row_cell (heap_alloc_new w _) (j := 2) rfl
  · exact row_cell (heap_alloc_new w _) (j := 3) rfl
  · exact row_cell (heap_alloc_new w _) (j := 4) rfl
  · exact row_cell (heap_alloc_new w _) (j := 5) rfl
  · exact row_cell (heap_alloc_new w _) (j := 6) rfl
theorem nu_tab (w : World) : Calls Tryz.prog 50 #[] w fun e w' => ∃ ao, e = .returned (.slice ao 7 7) ∧ Hid (Nats .i64 w' ao [17, 25, 33, 42, 49, 58, 64]) ∧ Below w.heap.size w w' := by
  have HN := Lib.hid (nats_tab7 w 17 25 33 42 49 58 64)
  go_enter Tryz.func50, Tryz.ntmps50
  go_wp2_with fail
  go_ret
  exact ⟨_, rfl, HN, below_new _ _⟩
theorem nu_rtk (r : Rec) : nuF.tk r = rtk [17, 25, 33, 42, 49, 58, 64] r := by
  rw [nuF_tk]
  unfold rtk
  rw [Bool.eq_iff_iff]
  simp
  omega
open Go.RowKit
theorem nu_fit_ofx {x : Nu} (h : nu_arg x) (hw : nu_wt x ≤ 12000) : nu_fit x := by
  obtain ⟨⟨a, ⟨t, ⟨⟨⟨k, n⟩, es⟩, ⟨l, f⟩⟩⟩⟩, u⟩ := x
  exact nu_fit_of h hw
theorem nu_rmay (x : Nu) (cs : List Value) (Q : Nat → Prop) (d : Int) (w : World) (ha : nu_arg x) (hw : nu_wt x ≤ 12000) (hr : nuCel.R w Q x cs) (hd : -9223372036854775808 ≤ d ∧ d ≤ 9223372036854775807) :
 Calls Tryz.prog 16 #[.agg cs.toArray, .int .i64 d] w fun e w' => e = .returned (.bool (nu_may d x)) ∧ Below w.heap.size w w' := by
 have hft := nu_fit_ofx ha hw
 obtain ⟨⟨a, ⟨t, ⟨⟨⟨k, n⟩, es⟩, ⟨l, f⟩⟩⟩⟩, u⟩ := x
 obtain ⟨lo, lc, eo, ec, rfl, hrl, hres⟩ := hr
 have hwt : 20 + (lwt exSb es + ksw l + u.length) ≤ 12000 := hw
 clear hw
 obtain ⟨hna, hnt, hnn, hfes, hfl, hnf, hw⟩ := hft
 dsimp only [strV]
 obtain ⟨Xu, hXu⟩ : ∃ X : ByteArray, (⟨u.toArray⟩ : ByteArray) = X := ⟨_, rfl⟩
 have HDu : Hid (Xu.data.toList = u) := Lib.hid (by rw [← hXu])
 have HZu : Hid (Xu.size ≤ 12000) := Lib.hid (by rw [← hXu]; simp [ByteArray.size]; omega)
 rw [hXu]
 clear hXu
 obtain ⟨mx, hmx⟩ : ∃ q0, nu_may d ((a, (t, (((k, n), es), (l, f)))), u) = q0 := ⟨_, rfl⟩
 have hm2 : (decide (0 ≤ d) && ((decide (k = 0 ∧ n = 0 ∨ k = 1 ∨ k = 2) && (lmays exSb es d && kmays l d)) && munkOk nuF.tk u d)) = mx := hmx
 rw [hmx]
 clear hmx
 have hkq : decide (k = 0 ∧ n = 0 ∨ k = 1 ∨ k = 2) = (decide (k ≥ 0) && (decide (k ≤ 2) && (decide (k > 0) || ((n : Int) == 0)))) := by
  rw [Bool.eq_iff_iff]
  simp only [decide_eq_true_eq, Bool.and_eq_true, Bool.or_eq_true, beq_iff_eq]
  omega
 rw [hkq] at hm2
 clear hkq
 have harms : (decide (d ≥ 0) = false ∧ mx = false) ∨ (decide (d ≥ 0) = true ∧ decide (k ≥ 0) = false ∧ mx = false) ∨ (decide (d ≥ 0) = true ∧ decide (k ≥ 0) = true ∧ decide (k ≤ 2) = false ∧ mx = false) ∨ (decide (d ≥ 0) = true ∧ decide (k ≥ 0) = true ∧ decide (k ≤ 2) = true ∧ decide (k > 0) = false ∧ ((n : Int) == 0) = false ∧ mx = false) ∨ (decide (d ≥ 0) = true ∧ decide (k ≥ 0) = true ∧ decide (k ≤ 2) = true ∧ decide (k > 0) = true ∧ kmays l d = false ∧ mx = false) ∨ (decide (d ≥ 0) = true ∧ decide (k ≥ 0) = true ∧ decide (k ≤ 2) = true ∧ decide (k > 0) = true ∧ kmays l d = true ∧ lmays exSb es d = false ∧ mx = false) ∨ (decide (d ≥ 0) = true ∧ decide (k ≥ 0) = true ∧ decide (k ≤ 2) = true ∧ decide (k > 0) = true ∧ kmays l d = true ∧ lmays exSb es d = true ∧ munkOk nuF.tk u d = false ∧ mx = false) ∨ (decide (d ≥ 0) = true ∧ decide (k ≥ 0) = true ∧ decide (k ≤ 2) = true ∧ decide (k > 0) = true ∧ kmays l d = true ∧ lmays exSb es d = true ∧ munkOk nuF.tk u d = true ∧ mx = true) ∨ (decide (d ≥ 0) = true ∧ decide (k ≥ 0) = true ∧ decide (k ≤ 2) = true ∧ decide (k > 0) = false ∧ ((n : Int) == 0) = true ∧ kmays l d = false ∧ mx = false) ∨ (decide (d ≥ 0) = true ∧ decide (k ≥ 0) = true ∧ decide (k ≤ 2) = true ∧ decide (k > 0) = false ∧ ((n : Int) == 0) = true ∧ kmays l d = true ∧ lmays exSb es d = false ∧ mx = false) ∨ (decide (d ≥ 0) = true ∧ decide (k ≥ 0) = true ∧ decide (k ≤ 2) = true ∧ decide (k > 0) = false ∧ ((n : Int) == 0) = true ∧ kmays l d = true ∧ lmays exSb es d = true ∧ munkOk nuF.tk u d = false ∧ mx = false) ∨ (decide (d ≥ 0) = true ∧ decide (k ≥ 0) = true ∧ decide (k ≤ 2) = true ∧ decide (k > 0) = false ∧ ((n : Int) == 0) = true ∧ kmays l d = true ∧ lmays exSb es d = true ∧ munkOk nuF.tk u d = true ∧ mx = true) := by
  have hm3 : (decide (d ≥ 0) && (((decide (k ≥ 0) && (decide (k ≤ 2) && (decide (k > 0) || ((n : Int) == 0)))) && (lmays exSb es d && kmays l d)) && munkOk nuF.tk u d)) = mx := hm2
  clear hm2
  revert hm3
  generalize decide (d ≥ 0) = bd
  generalize decide (k ≥ 0) = bk0
  generalize decide (k ≤ 2) = bk2
  generalize decide (k > 0) = bkp
  generalize ((n : Int) == 0) = bn0
  generalize kmays l d = bl
  generalize lmays exSb es d = bes
  generalize munkOk nuF.tk u d = bu
  intro hm3
  subst hm3
  cases bd <;> cases bk0 <;> cases bk2 <;> cases bkp <;> cases bn0 <;> cases bl <;> cases bes <;> cases bu <;> simp
 clear hm2
 obtain ⟨bx, hbx⟩ : ∃ b, w.heap.size = b := ⟨_, rfl⟩
 obtain ⟨W, hW⟩ : ∃ W, w.alloc (.cells #[.slice lo l.length lc, .int .u64 (a : Int), .int .u64 (t : Int), .int .i64 k, .int .u64 (n : Int), .slice eo es.length ec, .int .u32 (f : Int), .string Xu] 28) = W := ⟨_, rfl⟩
 have hb0 : Below w.heap.size w W := by rw [← hW]; exact below_new _ _
 have hrow : W.heap[bx]? = some (.cells #[.slice lo l.length lc, .int .u64 (a : Int), .int .u64 (t : Int), .int .i64 k, .int .u64 (n : Int), .slice eo es.length ec, .int .u32 (f : Int), .string Xu] 28 (0, 0)) := by rw [← hW, ← hbx]; exact new_row _ _ _
 obtain ⟨D, hD⟩ : ∃ D, W.drew = D := ⟨_, rfl⟩
 have hbd : Below W.heap.size W D := by rw [← hD]; exact (Below.refl _ _).drew
 have HBD := Lib.hid (below_step hb0 hbd)
 have HROW := Lib.hid ((hbd.block _ (row_lt hrow)).trans hrow)
 have HKl : Hid (KRels D Q l lo 0) := Lib.hid (hrl.below HBD.out)
 have HFl := Lib.hid hfl
 have HWTl : Hid (ksw l ≤ 12000) := Lib.hid (by omega)
 have HKes : Hid (CRels exCel D Q es eo) := Lib.hid (hres.below HBD.out)
 have HFes := Lib.hid hfes
 have HWTes : Hid (lwt exSb es ≤ 12000) := Lib.hid (by omega)
 have HDD := Lib.hid hd
 have HW := Lib.hid hW
 have HBX := Lib.hid hbx
 have HDN := Lib.hid hD
 clear hW hbx hrow hD hb0 hbd hna hnt hnn hfes hfl hnf hw hwt ha hd hrl hres
 rcases harms with ⟨d1, rfl⟩ | ⟨d1, d2, rfl⟩ | ⟨d1, d2, d3, rfl⟩ | ⟨d1, d2, d3, d4, d5, rfl⟩ | ⟨d1, d2, d3, d4, cl, rfl⟩ | ⟨d1, d2, d3, d4, cl, ces, rfl⟩ | ⟨d1, d2, d3, d4, cl, ces, cu, rfl⟩ | ⟨d1, d2, d3, d4, cl, ces, cu, rfl⟩ | ⟨d1, d2, d3, d4, d5, cl, rfl⟩ | ⟨d1, d2, d3, d4, d5, cl, ces, rfl⟩ | ⟨d1, d2, d3, d4, d5, cl, ces, cu, rfl⟩ | ⟨d1, d2, d3, d4, d5, cl, ces, cu, rfl⟩
 all_goals
  try have q1 : IntKind.i64.wrap (d - 1) = d - 1 := IntWalk.i64_in _ (by have := HDD.out; have := of_decide_eq_true d1; omega)
  go_enter Tryz.func16, Tryz.ntmps16
  go_wp2_with fail
  rw [HW.out, HBX.out]
  have HB : Hid (Below D.heap.size D D) := Lib.hid (Below.refl _ _)
  have hne : Nonempty {w' : World // (fun w' => w'.heap[bx]? = some (.cells #[.slice lo l.length lc, .int .u64 (a : Int), .int .u64 (t : Int), .int .i64 k, .int .u64 (n : Int), .slice eo es.length ec, .int .u32 (f : Int), .string Xu] 28 (0, 0))) w'} := ⟨⟨_, HROW.out⟩⟩
  refine wp_region_seq (S := fun w' => w'.heap[bx]? = some (.cells #[.slice lo l.length lc, .int .u64 (a : Int), .int .u64 (t : Int), .int .i64 k, .int .u64 (n : Int), .slice eo es.length ec, .int .u32 (f : Int), .string Xu] 28 (0, 0))) [(0, true), (1, true), (2, true), (3, true), (4, true), (5, true), (6, true), (7, true), (8, true), (9, true), (10, true), (11, true), (12, true), (13, true), (14, true), (15, true), (16, true), (17, true), (18, true), (19, true), (20, true), (21, true), (22, true), (23, true), (24, true), (25, true), (26, true), (27, false), (28, true), (29, true), (30, true), (31, true), (32, true), (33, true), (34, false), (35, true), (36, true), (37, true), (38, true), (39, true), (40, false), (41, false), (42, true), (43, true)] (by kernel_rfl) (by kernel_rfl) (by kernel_rfl) (by kernel_rfl) (by rw [HDN.out]; exact HROW.out) ?_
  rw [HDN.out]
  iterate 4 (refine seq_take _ rfl (fun KC hK => ?_); go_simp; (first | refine hK _ ?_ | refine ⟨_, fun _ _ => rfl, hK _ ?_⟩ | (refine ⟨undef, by rw [if_neg (by simp [undef])], ?_⟩; refine hK _ ?_)); clear hK KC)
  first | (refine seq_take _ rfl (fun KC hK => ?_); go_simp; refine ⟨.int .i64 k, fun wA ha => by (have e0 : wA.cell? ⟨bx, 3, none⟩ = some (.int .i64 k) := row_cell ha (j := 3) rfl); simp only [e0, Result.andThen], hK _ ?_⟩; clear hK KC) | (refine seq_take _ rfl (fun KC hK => ?_); go_simp; (first | refine hK _ ?_ | refine ⟨_, fun _ _ => rfl, hK _ ?_⟩ | (refine ⟨undef, by rw [if_neg (by simp [undef])], ?_⟩; refine hK _ ?_)); clear hK KC)
  iterate 4 (refine seq_take _ rfl (fun KC hK => ?_); go_simp; (first | refine hK _ ?_ | refine ⟨_, fun _ _ => rfl, hK _ ?_⟩ | (refine ⟨undef, by rw [if_neg (by simp [undef])], ?_⟩; refine hK _ ?_)); clear hK KC)
  first | (refine seq_take _ rfl (fun KC hK => ?_); go_simp; refine ⟨.int .i64 k, fun wA ha => by (have e0 : wA.cell? ⟨bx, 3, none⟩ = some (.int .i64 k) := row_cell ha (j := 3) rfl); simp only [e0, Result.andThen], hK _ ?_⟩; clear hK KC) | (refine seq_take _ rfl (fun KC hK => ?_); go_simp; (first | refine hK _ ?_ | refine ⟨_, fun _ _ => rfl, hK _ ?_⟩ | (refine ⟨undef, by rw [if_neg (by simp [undef])], ?_⟩; refine hK _ ?_)); clear hK KC)
  iterate 4 (refine seq_take _ rfl (fun KC hK => ?_); go_simp; (first | refine hK _ ?_ | refine ⟨_, fun _ _ => rfl, hK _ ?_⟩ | (refine ⟨undef, by rw [if_neg (by simp [undef])], ?_⟩; refine hK _ ?_)); clear hK KC)
  first | (refine seq_take _ rfl (fun KC hK => ?_); go_simp; refine ⟨.int .i64 k, fun wA ha => by (have e0 : wA.cell? ⟨bx, 3, none⟩ = some (.int .i64 k) := row_cell ha (j := 3) rfl); simp only [e0, Result.andThen], hK _ ?_⟩; clear hK KC) | (refine seq_take _ rfl (fun KC hK => ?_); go_simp; (first | refine hK _ ?_ | refine ⟨_, fun _ _ => rfl, hK _ ?_⟩ | (refine ⟨undef, by rw [if_neg (by simp [undef])], ?_⟩; refine hK _ ?_)); clear hK KC)
  iterate 3 (refine seq_take _ rfl (fun KC hK => ?_); go_simp; (first | refine hK _ ?_ | refine ⟨_, fun _ _ => rfl, hK _ ?_⟩ | (refine ⟨undef, by rw [if_neg (by simp [undef])], ?_⟩; refine hK _ ?_)); clear hK KC)
  first | (refine seq_take _ rfl (fun KC hK => ?_); go_simp; refine ⟨.int .u64 (n : Int), fun wA ha => by (have e0 : wA.cell? ⟨bx, 4, none⟩ = some (.int .u64 (n : Int)) := row_cell ha (j := 4) rfl); simp only [e0, Result.andThen], hK _ ?_⟩; clear hK KC) | (refine seq_take _ rfl (fun KC hK => ?_); go_simp; (first | refine hK _ ?_ | refine ⟨_, fun _ _ => rfl, hK _ ?_⟩ | (refine ⟨undef, by rw [if_neg (by simp [undef])], ?_⟩; refine hK _ ?_)); clear hK KC)
  iterate 5 (refine seq_take _ rfl (fun KC hK => ?_); go_simp; (first | refine hK _ ?_ | refine ⟨_, fun _ _ => rfl, hK _ ?_⟩ | (refine ⟨undef, by rw [if_neg (by simp [undef])], ?_⟩; refine hK _ ?_)); clear hK KC)
  first | (refine seq_take _ rfl (fun KC hK => ?_); go_simp; refine ⟨.slice lo l.length lc, fun wA ha => by (have e0 : wA.cell? ⟨bx, 0, none⟩ = some (.slice lo l.length lc) := row_cell ha (j := 0) rfl); simp only [e0, Result.andThen], hK _ ?_⟩; clear hK KC) | (refine seq_take _ rfl (fun KC hK => ?_); go_simp; (first | refine hK _ ?_ | refine ⟨_, fun _ _ => rfl, hK _ ?_⟩ | (refine ⟨undef, by rw [if_neg (by simp [undef])], ?_⟩; refine hK _ ?_)); clear hK KC)
  iterate 2 (refine seq_take _ rfl (fun KC hK => ?_); go_simp; (first | refine hK _ ?_ | refine ⟨_, fun _ _ => rfl, hK _ ?_⟩ | (refine ⟨undef, by rw [if_neg (by simp [undef])], ?_⟩; refine hK _ ?_)); clear hK KC)
  first
  | (refine seq_come _ rfl (fun KC hK => ?_); go_simp
     refine (mayks_any8 l lo lc Q _ (d - 1) HFl.out (HKl.out.below HB.out) (by have := HDD.out; have := of_decide_eq_true d1; omega) (by have := HWTl.out; omega)).mono ?_; rintro e wz ⟨hb, gg, rfl, rfl⟩
     rw [kmays_ref d (of_decide_eq_true d1), cl]
     replace HB := Lib.hid (below_step HB.out hb)
     clear hb
     go_simp; refine hK.out _ _ ((HB.out.block _ (row_lt HROW.out)).trans HROW.out) ?_; clear hK KC)
  | (refine seq_come _ rfl (fun KC hK => ?_); go_simp; (first | refine hK.out _ _ ((HB.out.block _ (row_lt HROW.out)).trans HROW.out) ?_ | (rw [if_neg (by simp [undef])]; refine hK.out _ _ ((HB.out.block _ (row_lt HROW.out)).trans HROW.out) ?_)); clear hK KC)
  iterate 3 (refine seq_take _ rfl (fun KC hK => ?_); go_simp; (first | refine hK _ ?_ | refine ⟨_, fun _ _ => rfl, hK _ ?_⟩ | (refine ⟨undef, by rw [if_neg (by simp [undef])], ?_⟩; refine hK _ ?_)); clear hK KC)
  first | (refine seq_take _ rfl (fun KC hK => ?_); go_simp; refine ⟨.slice eo es.length ec, fun wA ha => by (have e0 : wA.cell? ⟨bx, 5, none⟩ = some (.slice eo es.length ec) := row_cell ha (j := 5) rfl); simp only [e0, Result.andThen], hK _ ?_⟩; clear hK KC) | (refine seq_take _ rfl (fun KC hK => ?_); go_simp; (first | refine hK _ ?_ | refine ⟨_, fun _ _ => rfl, hK _ ?_⟩ | (refine ⟨undef, by rw [if_neg (by simp [undef])], ?_⟩; refine hK _ ?_)); clear hK KC)
  iterate 2 (refine seq_take _ rfl (fun KC hK => ?_); go_simp; (first | refine hK _ ?_ | refine ⟨_, fun _ _ => rfl, hK _ ?_⟩ | (refine ⟨undef, by rw [if_neg (by simp [undef])], ?_⟩; refine hK _ ?_)); clear hK KC)
  first
  | (refine seq_come _ rfl (fun KC hK => ?_); go_simp
     refine (mayexs8_any es eo ec Q _ (d - 1) HFes.out HWTes.out (HKes.out.below HB.out) (by have := HDD.out; have := of_decide_eq_true d1; omega)).mono ?_; rintro e wz ⟨rfl, hb⟩
     rw [lmays_ex d (of_decide_eq_true d1), ces]
     replace HB := Lib.hid (below_step HB.out hb)
     clear hb
     go_simp; refine hK.out _ _ ((HB.out.block _ (row_lt HROW.out)).trans HROW.out) ?_; clear hK KC)
  | (refine seq_come _ rfl (fun KC hK => ?_); go_simp; (first | refine hK.out _ _ ((HB.out.block _ (row_lt HROW.out)).trans HROW.out) ?_ | (rw [if_neg (by simp [undef])]; refine hK.out _ _ ((HB.out.block _ (row_lt HROW.out)).trans HROW.out) ?_)); clear hK KC)
  iterate 3 (refine seq_take _ rfl (fun KC hK => ?_); go_simp; (first | refine hK _ ?_ | refine ⟨_, fun _ _ => rfl, hK _ ?_⟩ | (refine ⟨undef, by rw [if_neg (by simp [undef])], ?_⟩; refine hK _ ?_)); clear hK KC)
  first | (refine seq_take _ rfl (fun KC hK => ?_); go_simp; refine ⟨.string Xu, fun wA ha => by (have e0 : wA.cell? ⟨bx, 7, none⟩ = some (.string Xu) := row_cell ha (j := 7) rfl); simp only [e0, Result.andThen], hK _ ?_⟩; clear hK KC) | (refine seq_take _ rfl (fun KC hK => ?_); go_simp; (first | refine hK _ ?_ | refine ⟨_, fun _ _ => rfl, hK _ ?_⟩ | (refine ⟨undef, by rw [if_neg (by simp [undef])], ?_⟩; refine hK _ ?_)); clear hK KC)
  (refine seq_take _ rfl (fun KC hK => ?_); go_simp; (first | refine hK _ ?_ | refine ⟨_, fun _ _ => rfl, hK _ ?_⟩ | (refine ⟨undef, by rw [if_neg (by simp [undef])], ?_⟩; refine hK _ ?_)); clear hK KC)
  first
  | (refine seq_come _ rfl (fun KC hK => ?_); go_simp
     refine (nu_tab _).mono ?_; rintro e wz ⟨to, rfl, HNT, hb⟩
     replace HB := Lib.hid (below_step HB.out hb)
     clear hb
     go_simp; refine hK.out _ _ ((HB.out.block _ (row_lt HROW.out)).trans HROW.out) ?_; clear hK KC)
  | (refine seq_come _ rfl (fun KC hK => ?_); go_simp; (first | refine hK.out _ _ ((HB.out.block _ (row_lt HROW.out)).trans HROW.out) ?_ | (rw [if_neg (by simp [undef])]; refine hK.out _ _ ((HB.out.block _ (row_lt HROW.out)).trans HROW.out) ?_)); clear hK KC)
  first
  | (refine seq_come _ rfl (fun KC hK => ?_); go_simp
     refine (unknown8_any Xu d [17, 25, 33, 42, 49, 58, 64] to 7 _ HNT (by decide) (Lib.hid (by decide)) (by have := HZu.out; omega) HDD.out.2).mono ?_; rintro e wz ⟨rfl, hb⟩
     rw [HDu.out, ← munkOk_rtk nu_rtk, cu, show decide (0 ≤ d) = true from d1]
     replace HB := Lib.hid (below_step HB.out hb)
     clear hb
     go_simp; refine hK.out _ _ ((HB.out.block _ (row_lt HROW.out)).trans HROW.out) ?_; clear hK KC)
  | (refine seq_come _ rfl (fun KC hK => ?_); go_simp; (first | refine hK.out _ _ ((HB.out.block _ (row_lt HROW.out)).trans HROW.out) ?_ | (rw [if_neg (by simp [undef])]; refine hK.out _ _ ((HB.out.block _ (row_lt HROW.out)).trans HROW.out) ?_)); clear hK KC)
  iterate 2 (refine seq_take _ rfl (fun KC hK => ?_); go_simp; (first | refine hK _ ?_ | refine ⟨_, fun _ _ => rfl, hK _ ?_⟩ | (refine ⟨undef, by rw [if_neg (by simp [undef])], ?_⟩; refine hK _ ?_)); clear hK KC)
  refine seq_done ?_
  clear hne
  go_wp2_with fail
  go_ret
  exact ⟨rfl, below_step HBD.out HB.out⟩
theorem nu_rout (x : Nu) (cs : List Value) (Q : Nat → Prop) (d : Int) (w : World) (ha : nu_arg x) (hw : nu_wt x ≤ 12000) (hr : nuCel.R w Q x cs) (hm : nu_may d x = true) :
 Calls Tryz.prog 19 #[.agg cs.toArray] w fun e w' => e = .returned (.string ⟨(nu_out x).toArray⟩) ∧ Below w.heap.size w w' := by
 have hft := nu_fit_ofx ha hw
 obtain ⟨⟨a, ⟨t, ⟨⟨⟨k, n⟩, es⟩, ⟨l, f⟩⟩⟩⟩, u⟩ := x
 obtain ⟨lo, lc, eo, ec, rfl, hrl, hres⟩ := hr
 have hwt : 20 + (lwt exSb es + ksw l + u.length) ≤ 12000 := hw
 clear hw
 obtain ⟨hna, hnt, hnn, hfes, hfl, hnf, hw⟩ := hft
 dsimp only [strV]
 obtain ⟨Xu, hXu⟩ : ∃ X : ByteArray, (⟨u.toArray⟩ : ByteArray) = X := ⟨_, rfl⟩
 have HDu : Hid (Xu.data.toList = u) := Lib.hid (by rw [← hXu])
 have HZu : Hid (Xu.size ≤ 12000) := Lib.hid (by rw [← hXu]; simp [ByteArray.size]; omega)
 rw [hXu]
 clear hXu
 have hm2 : (decide (0 ≤ d) && ((decide (k = 0 ∧ n = 0 ∨ k = 1 ∨ k = 2) && (lmays exSb es d && kmays l d)) && munkOk nuF.tk u d)) = true := hm
 simp only [Bool.and_eq_true, decide_eq_true_eq] at hm2
 have HMes := Lib.hid hm2.2.1.2.1
 have HMl := Lib.hid hm2.2.1.2.2
 obtain ⟨ox, hox⟩ : ∃ q0, nu_out ((a, (t, (((k, n), es), (l, f)))), u) = q0 := ⟨_, rfl⟩
 rw [hox]
 have HOX := Lib.hid hox
 have HNa := Lib.hid hna
 have HNt := Lib.hid hnt
 have HNn := Lib.hid hnn
 have HNf := Lib.hid hnf
 have qwf := u64_wrap32 HNf.out
 obtain ⟨bx, hbx⟩ : ∃ b, w.heap.size = b := ⟨_, rfl⟩
 obtain ⟨W, hW⟩ : ∃ W, w.alloc (.cells #[.slice lo l.length lc, .int .u64 (a : Int), .int .u64 (t : Int), .int .i64 k, .int .u64 (n : Int), .slice eo es.length ec, .int .u32 (f : Int), .string Xu] 28) = W := ⟨_, rfl⟩
 have hb0 : Below w.heap.size w W := by rw [← hW]; exact below_new _ _
 have hrow : W.heap[bx]? = some (.cells #[.slice lo l.length lc, .int .u64 (a : Int), .int .u64 (t : Int), .int .i64 k, .int .u64 (n : Int), .slice eo es.length ec, .int .u32 (f : Int), .string Xu] 28 (0, 0)) := by rw [← hW, ← hbx]; exact new_row _ _ _
 obtain ⟨D, hD⟩ : ∃ D, W.drew = D := ⟨_, rfl⟩
 have hbd : Below W.heap.size W D := by rw [← hD]; exact (Below.refl _ _).drew
 have HBD := Lib.hid (below_step hb0 hbd)
 have HROW := Lib.hid ((hbd.block _ (row_lt hrow)).trans hrow)
 have HKl : Hid (KRels D Q l lo 0) := Lib.hid (hrl.below HBD.out)
 have HFl := Lib.hid hfl
 have HWTl : Hid (ksw l ≤ 12000) := Lib.hid (by omega)
 have HKes : Hid (CRels exCel D Q es eo) := Lib.hid (hres.below HBD.out)
 have HFes := Lib.hid hfes
 have HWTes : Hid (lwt exSb es ≤ 12000) := Lib.hid (by omega)
 have HW := Lib.hid hW
 have HBX := Lib.hid hbx
 have HDN := Lib.hid hD
 clear hW hbx hrow hD hb0 hbd hna hnt hnn hfes hfl hnf hw hwt ha hm hm2 hox hrl hres
 go_enter Tryz.func19, Tryz.ntmps19
 go_wp2_with fail
 rw [HW.out, HBX.out]
 have HB : Hid (Below D.heap.size D D) := Lib.hid (Below.refl _ _)
 have hne : Nonempty {w' : World // (fun w' => w'.heap[bx]? = some (.cells #[.slice lo l.length lc, .int .u64 (a : Int), .int .u64 (t : Int), .int .i64 k, .int .u64 (n : Int), .slice eo es.length ec, .int .u32 (f : Int), .string Xu] 28 (0, 0))) w'} := ⟨⟨_, HROW.out⟩⟩
 refine wp_region_seq (S := fun w' => w'.heap[bx]? = some (.cells #[.slice lo l.length lc, .int .u64 (a : Int), .int .u64 (t : Int), .int .i64 k, .int .u64 (n : Int), .slice eo es.length ec, .int .u32 (f : Int), .string Xu] 28 (0, 0))) [(0, true), (1, true), (3, true), (4, true), (7, true), (8, true), (9, true), (10, true), (11, true), (15, true), (16, true), (19, true), (20, true), (21, true), (22, true), (23, true), (27, true), (28, true), (31, true), (32, true), (33, true), (36, true), (37, true), (2, false), (5, false), (6, true), (12, false), (13, false), (14, true), (17, false), (18, true), (24, false), (25, false), (26, true), (29, false), (30, true), (34, false), (35, true), (38, true), (39, true)] (by kernel_rfl) (by kernel_rfl) (by kernel_rfl) (by kernel_rfl) (by rw [HDN.out]; exact HROW.out) ?_
 rw [HDN.out]
 (refine seq_take _ rfl (fun KC hK => ?_); go_simp; (first | refine hK _ ?_ | refine ⟨_, fun _ _ => rfl, hK _ ?_⟩ | (refine ⟨undef, by rw [if_neg (by simp [undef])], ?_⟩; refine hK _ ?_)); clear hK KC)
 (refine seq_take _ rfl (fun KC hK => ?_); go_simp; refine ⟨.int .u64 (a : Int), fun wA ha => by (have e0 : wA.cell? ⟨bx, 1, none⟩ = some (.int .u64 (a : Int)) := row_cell ha (j := 1) rfl); simp only [e0, Result.andThen], hK _ ?_⟩; clear hK KC)
 (refine seq_take _ rfl (fun KC hK => ?_); go_simp; (first | refine hK _ ?_ | refine ⟨_, fun _ _ => rfl, hK _ ?_⟩ | (refine ⟨undef, by rw [if_neg (by simp [undef])], ?_⟩; refine hK _ ?_)); clear hK KC)
 (refine seq_take _ rfl (fun KC hK => ?_); go_simp; refine ⟨.int .u64 (t : Int), fun wA ha => by (have e0 : wA.cell? ⟨bx, 2, none⟩ = some (.int .u64 (t : Int)) := row_cell ha (j := 2) rfl); simp only [e0, Result.andThen], hK _ ?_⟩; clear hK KC)
 (refine seq_take _ rfl (fun KC hK => ?_); go_simp; (first | refine hK _ ?_ | refine ⟨_, fun _ _ => rfl, hK _ ?_⟩ | (refine ⟨undef, by rw [if_neg (by simp [undef])], ?_⟩; refine hK _ ?_)); clear hK KC)
 (refine seq_take _ rfl (fun KC hK => ?_); go_simp; refine ⟨.int .i64 k, fun wA ha => by (have e0 : wA.cell? ⟨bx, 3, none⟩ = some (.int .i64 k) := row_cell ha (j := 3) rfl); simp only [e0, Result.andThen], hK _ ?_⟩; clear hK KC)
 iterate 2 (refine seq_take _ rfl (fun KC hK => ?_); go_simp; (first | refine hK _ ?_ | refine ⟨_, fun _ _ => rfl, hK _ ?_⟩ | (refine ⟨undef, by rw [if_neg (by simp [undef])], ?_⟩; refine hK _ ?_)); clear hK KC)
 (refine seq_take _ rfl (fun KC hK => ?_); go_simp; refine ⟨.int .u64 (n : Int), fun wA ha => by (have e0 : wA.cell? ⟨bx, 4, none⟩ = some (.int .u64 (n : Int)) := row_cell ha (j := 4) rfl); simp only [e0, Result.andThen], hK _ ?_⟩; clear hK KC)
 (refine seq_take _ rfl (fun KC hK => ?_); go_simp; (first | refine hK _ ?_ | refine ⟨_, fun _ _ => rfl, hK _ ?_⟩ | (refine ⟨undef, by rw [if_neg (by simp [undef])], ?_⟩; refine hK _ ?_)); clear hK KC)
 (refine seq_take _ rfl (fun KC hK => ?_); go_simp; refine ⟨.slice eo es.length ec, fun wA ha => by (have e0 : wA.cell? ⟨bx, 5, none⟩ = some (.slice eo es.length ec) := row_cell ha (j := 5) rfl); simp only [e0, Result.andThen], hK _ ?_⟩; clear hK KC)
 (refine seq_take _ rfl (fun KC hK => ?_); go_simp; (first | refine hK _ ?_ | refine ⟨_, fun _ _ => rfl, hK _ ?_⟩ | (refine ⟨undef, by rw [if_neg (by simp [undef])], ?_⟩; refine hK _ ?_)); clear hK KC)
 (refine seq_take _ rfl (fun KC hK => ?_); go_simp; refine ⟨.int .i64 k, fun wA ha => by (have e0 : wA.cell? ⟨bx, 3, none⟩ = some (.int .i64 k) := row_cell ha (j := 3) rfl); simp only [e0, Result.andThen], hK _ ?_⟩; clear hK KC)
 iterate 2 (refine seq_take _ rfl (fun KC hK => ?_); go_simp; (first | refine hK _ ?_ | refine ⟨_, fun _ _ => rfl, hK _ ?_⟩ | (refine ⟨undef, by rw [if_neg (by simp [undef])], ?_⟩; refine hK _ ?_)); clear hK KC)
 (refine seq_take _ rfl (fun KC hK => ?_); go_simp; refine ⟨.int .u64 (n : Int), fun wA ha => by (have e0 : wA.cell? ⟨bx, 4, none⟩ = some (.int .u64 (n : Int)) := row_cell ha (j := 4) rfl); simp only [e0, Result.andThen], hK _ ?_⟩; clear hK KC)
 (refine seq_take _ rfl (fun KC hK => ?_); go_simp; (first | refine hK _ ?_ | refine ⟨_, fun _ _ => rfl, hK _ ?_⟩ | (refine ⟨undef, by rw [if_neg (by simp [undef])], ?_⟩; refine hK _ ?_)); clear hK KC)
 (refine seq_take _ rfl (fun KC hK => ?_); go_simp; refine ⟨.slice lo l.length lc, fun wA ha => by (have e0 : wA.cell? ⟨bx, 0, none⟩ = some (.slice lo l.length lc) := row_cell ha (j := 0) rfl); simp only [e0, Result.andThen], hK _ ?_⟩; clear hK KC)
 (refine seq_take _ rfl (fun KC hK => ?_); go_simp; (first | refine hK _ ?_ | refine ⟨_, fun _ _ => rfl, hK _ ?_⟩ | (refine ⟨undef, by rw [if_neg (by simp [undef])], ?_⟩; refine hK _ ?_)); clear hK KC)
 (refine seq_take _ rfl (fun KC hK => ?_); go_simp; refine ⟨.int .u32 (f : Int), fun wA ha => by (have e0 : wA.cell? ⟨bx, 6, none⟩ = some (.int .u32 (f : Int)) := row_cell ha (j := 6) rfl); simp only [e0, Result.andThen], hK _ ?_⟩; clear hK KC)
 iterate 2 (refine seq_take _ rfl (fun KC hK => ?_); go_simp; (first | refine hK _ ?_ | refine ⟨_, fun _ _ => rfl, hK _ ?_⟩ | (refine ⟨undef, by rw [if_neg (by simp [undef])], ?_⟩; refine hK _ ?_)); clear hK KC)
 (refine seq_take _ rfl (fun KC hK => ?_); go_simp; refine ⟨.string Xu, fun wA ha => by (have e0 : wA.cell? ⟨bx, 7, none⟩ = some (.string Xu) := row_cell ha (j := 7) rfl); simp only [e0, Result.andThen], hK _ ?_⟩; clear hK KC)
 refine seq_come _ rfl (fun KC hK => ?_); go_simp
 refine (putnum8_any 2 a _ (by omega) (by omega) HNa.out).mono ?_; rintro e wz ⟨hb, T2, rfl, HDT2⟩
 have HZT2 : Hid (T2.size ≤ 13000) := Lib.hid (by have h1 : T2.size = (T2.data.toList).length := (by simp); rw [HDT2.out] at h1; have := num_seg 2 a; omega)
 replace HB := Lib.hid (below_step HB.out hb)
 clear hb
 go_simp; refine hK.out _ _ ((HB.out.block _ (row_lt HROW.out)).trans HROW.out) ?_; clear hK KC
 refine seq_come _ rfl (fun KC hK => ?_); go_simp
 refine (putnum8_any 3 t _ (by omega) (by omega) HNt.out).mono ?_; rintro e wz ⟨hb, T3, rfl, HDT3⟩
 have HZT3 : Hid (T3.size ≤ 13000) := Lib.hid (by have h1 : T3.size = (T3.data.toList).length := (by simp); rw [HDT3.out] at h1; have := num_seg 3 t; omega)
 replace HB := Lib.hid (below_step HB.out hb)
 clear hb
 go_simp; refine hK.out _ _ ((HB.out.block _ (row_lt HROW.out)).trans HROW.out) ?_; clear hK KC
 have hov : ¬ 9223372036854775807 < T2.size + T3.size := by have := HZT2.out; have := HZT3.out; omega
 refine seq_take _ rfl (fun KC hK => ?_); go_simp
 (first | refine hK _ ?_ | (rw [if_neg hov]; refine hK _ ?_) | refine ⟨_, fun _ _ => rfl, hK _ ?_⟩ | (refine ⟨_, fun _ _ => by rw [if_neg hov], ?_⟩; refine hK _ ?_)); clear hK KC hov
 refine seq_come _ rfl (fun KC hK => ?_); go_simp
 refine (fixed8_any 4 n _ (by omega) (by omega) HNn.out).mono ?_; rintro e wz ⟨hb, F4, rfl, HDF4⟩
 replace HB := Lib.hid (below_step HB.out hb)
 clear hb
 go_simp; refine hK.out _ _ ((HB.out.block _ (row_lt HROW.out)).trans HROW.out) ?_; clear hK KC
 refine seq_come _ rfl (fun KC hK => ?_); go_simp
 refine (if18_any (k = 1) (k == 1) F4 _ _ (by rw [beq_iff_eq]) HDF4).mono ?_; rintro e wz ⟨hb, T4, rfl, HDT4⟩
 have HZT4 : Hid (T4.size ≤ 13000) := Lib.hid (by have h1 : T4.size = (T4.data.toList).length := (by simp); rw [HDT4.out] at h1; have := kind_seg 4 n 1 k; omega)
 replace HB := Lib.hid (below_step HB.out hb)
 clear hb
 go_simp; refine hK.out _ _ ((HB.out.block _ (row_lt HROW.out)).trans HROW.out) ?_; clear hK KC
 have hov : ¬ 9223372036854775807 < T2.size + T3.size + T4.size := by have := HZT2.out; have := HZT3.out; have := HZT4.out; omega
 refine seq_take _ rfl (fun KC hK => ?_); go_simp
 (first | refine hK _ ?_ | (rw [if_neg hov]; refine hK _ ?_) | refine ⟨_, fun _ _ => rfl, hK _ ?_⟩ | (refine ⟨_, fun _ _ => by rw [if_neg hov], ?_⟩; refine hK _ ?_)); clear hK KC hov
 refine seq_come _ rfl (fun KC hK => ?_); go_simp
 refine (putexs8_any es 5 eo ec Q _ d (by omega) HFes.out HWTes.out (HKes.out.below HB.out) HMes.out).mono ?_; rintro e wz ⟨hb, T5, rfl, HDT5⟩
 have HZT5 : Hid (T5.size ≤ 13000) := Lib.hid (by have h1 : T5.size = (T5.data.toList).length := (by simp); rw [HDT5.out] at h1; have := exs_olen (num := 5) (by omega) es; have := HWTes.out; omega)
 replace HB := Lib.hid (below_step HB.out hb)
 clear hb
 go_simp; refine hK.out _ _ ((HB.out.block _ (row_lt HROW.out)).trans HROW.out) ?_; clear hK KC
 have hov : ¬ 9223372036854775807 < T2.size + T3.size + T4.size + T5.size := by have := HZT2.out; have := HZT3.out; have := HZT4.out; have := HZT5.out; omega
 refine seq_take _ rfl (fun KC hK => ?_); go_simp
 (first | refine hK _ ?_ | (rw [if_neg hov]; refine hK _ ?_) | refine ⟨_, fun _ _ => rfl, hK _ ?_⟩ | (refine ⟨_, fun _ _ => by rw [if_neg hov], ?_⟩; refine hK _ ?_)); clear hK KC hov
 refine seq_come _ rfl (fun KC hK => ?_); go_simp
 refine (fixed8_any 6 n _ (by omega) (by omega) HNn.out).mono ?_; rintro e wz ⟨hb, F6, rfl, HDF6⟩
 replace HB := Lib.hid (below_step HB.out hb)
 clear hb
 go_simp; refine hK.out _ _ ((HB.out.block _ (row_lt HROW.out)).trans HROW.out) ?_; clear hK KC
 refine seq_come _ rfl (fun KC hK => ?_); go_simp
 refine (if18_any (k = 2) (k == 2) F6 _ _ (by rw [beq_iff_eq]) HDF6).mono ?_; rintro e wz ⟨hb, T6, rfl, HDT6⟩
 have HZT6 : Hid (T6.size ≤ 13000) := Lib.hid (by have h1 : T6.size = (T6.data.toList).length := (by simp); rw [HDT6.out] at h1; have := kind_seg 6 n 2 k; omega)
 replace HB := Lib.hid (below_step HB.out hb)
 clear hb
 go_simp; refine hK.out _ _ ((HB.out.block _ (row_lt HROW.out)).trans HROW.out) ?_; clear hK KC
 have hov : ¬ 9223372036854775807 < T2.size + T3.size + T4.size + T5.size + T6.size := by have := HZT2.out; have := HZT3.out; have := HZT4.out; have := HZT5.out; have := HZT6.out; omega
 refine seq_take _ rfl (fun KC hK => ?_); go_simp
 (first | refine hK _ ?_ | (rw [if_neg hov]; refine hK _ ?_) | refine ⟨_, fun _ _ => rfl, hK _ ?_⟩ | (refine ⟨_, fun _ _ => by rw [if_neg hov], ?_⟩; refine hK _ ?_)); clear hK KC hov
 refine seq_come _ rfl (fun KC hK => ?_); go_simp
 refine (roks_any l 7 lo lc Q _ d (by omega) HFl.out (HKl.out.below HB.out) (by have := HWTl.out; omega) HMl.out).mono ?_; rintro e wz ⟨hb, T7, rfl, HDT7⟩
 have HZT7 : Hid (T7.size ≤ 13000) := Lib.hid (by have h1 : T7.size = (T7.data.toList).length := (by simp); rw [HDT7.out] at h1; have := kouts_le 7 (by omega) l; have := HWTl.out; omega)
 replace HB := Lib.hid (below_step HB.out hb)
 clear hb
 go_simp; refine hK.out _ _ ((HB.out.block _ (row_lt HROW.out)).trans HROW.out) ?_; clear hK KC
 have hov : ¬ 9223372036854775807 < T2.size + T3.size + T4.size + T5.size + T6.size + T7.size := by have := HZT2.out; have := HZT3.out; have := HZT4.out; have := HZT5.out; have := HZT6.out; have := HZT7.out; omega
 refine seq_take _ rfl (fun KC hK => ?_); go_simp
 (first | refine hK _ ?_ | (rw [if_neg hov]; refine hK _ ?_) | refine ⟨_, fun _ _ => rfl, hK _ ?_⟩ | (refine ⟨_, fun _ _ => by rw [if_neg hov], ?_⟩; refine hK _ ?_)); clear hK KC hov
 refine seq_come _ rfl (fun KC hK => ?_); go_simp
 refine (putvar8r_any 8 f _ (by omega) (by omega) (by have := HNf.out; omega)).mono ?_; rintro e wz ⟨hb, T8, rfl, HDT8⟩
 have HZT8 : Hid (T8.size ≤ 13000) := Lib.hid (by have h1 : T8.size = (T8.data.toList).length := (by simp); rw [HDT8.out] at h1; have := var_seg 8 f; omega)
 replace HB := Lib.hid (below_step HB.out hb)
 clear hb
 go_simp; refine hK.out _ _ ((HB.out.block _ (row_lt HROW.out)).trans HROW.out) ?_; clear hK KC
 have hov : ¬ 9223372036854775807 < T2.size + T3.size + T4.size + T5.size + T6.size + T7.size + T8.size := by have := HZT2.out; have := HZT3.out; have := HZT4.out; have := HZT5.out; have := HZT6.out; have := HZT7.out; have := HZT8.out; omega
 refine seq_take _ rfl (fun KC hK => ?_); go_simp
 (first | refine hK _ ?_ | (rw [if_neg hov]; refine hK _ ?_) | refine ⟨_, fun _ _ => rfl, hK _ ?_⟩ | (refine ⟨_, fun _ _ => by rw [if_neg hov], ?_⟩; refine hK _ ?_)); clear hK KC hov
 have hov : ¬ 9223372036854775807 < T2.size + T3.size + T4.size + T5.size + T6.size + T7.size + T8.size + Xu.size := by have := HZT2.out; have := HZT3.out; have := HZT4.out; have := HZT5.out; have := HZT6.out; have := HZT7.out; have := HZT8.out; have := HZu.out; omega
 refine seq_take _ rfl (fun KC hK => ?_); go_simp
 (first | refine hK _ ?_ | (rw [if_neg hov]; refine hK _ ?_) | refine ⟨_, fun _ _ => rfl, hK _ ?_⟩ | (refine ⟨_, fun _ _ => by rw [if_neg hov], ?_⟩; refine hK _ ?_)); clear hK KC hov
 (refine seq_take _ rfl (fun KC hK => ?_); go_simp; (first | refine hK _ ?_ | refine ⟨_, fun _ _ => rfl, hK _ ?_⟩ | (refine ⟨undef, by rw [if_neg (by simp [undef])], ?_⟩; refine hK _ ?_)); clear hK KC)
 refine seq_done ?_
 clear hne
 have hfin : (((((((T2 ++ T3) ++ T4) ++ T5) ++ T6) ++ T7) ++ T8) ++ Xu) = (⟨ox.toArray⟩ : ByteArray) := by
  refine ByteArray.ext (Array.ext' ?_)
  simp only [ByteArray.data_append, Array.toList_append]
  rw [HDT2.out, HDT3.out, HDT4.out, HDT5.out, HDT6.out, HDT7.out, HDT8.out, HDu.out]
  rw [← HOX.out]
  rfl
 have HFIN := Lib.hid hfin
 clear hfin
 go_wp2_with fail
 rw [HFIN.out]
 go_ret
 exact ⟨rfl, below_step HBD.out HB.out⟩
theorem nu_enm {x : Nu} {d e : Int} (he : 200001 ≤ e) (hw : nu_wt x ≤ 12000) (hm : nu_may d x = true) : nu_may e x = true := by
  obtain ⟨⟨a, ⟨t, ⟨⟨⟨k, n⟩, es⟩, ⟨l, f⟩⟩⟩⟩, u⟩ := x
  have hw : 20 + (lwt exSb es + ksw l + u.length) ≤ 12000 := hw
  have h : (decide (0 ≤ d) && ((decide (k = 0 ∧ n = 0 ∨ k = 1 ∨ k = 2) && (lmays exSb es d && kmays l d)) && munkOk nuF.tk u d)) = true := hm
  show (decide (0 ≤ e) && ((decide (k = 0 ∧ n = 0 ∨ k = 1 ∨ k = 2) && (lmays exSb es e && kmays l e)) && munkOk nuF.tk u e)) = true
  simp only [Bool.and_eq_true, decide_eq_true_eq] at h ⊢
  exact ⟨by omega, ⟨h.2.1.1, ⟨exs_enm (by omega) (by omega) h.2.1.2.1, kmays_enm (by omega) (by omega) h.2.1.2.2⟩⟩, munkOk_enough (by omega) h.2.2⟩
theorem nu_enough {x : Nu} {d : Int} (hw : nu_wt x ≤ 12000) (hm : nu_may d x = true) : nu_may 262144 x = true := nu_enm (by omega) hw hm
end Go.Proofs.YtjbingoliffjiaaGreatDoor
