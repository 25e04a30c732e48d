/-
  message.Part, message.List: of attributes.
-/
/-
  scope.MarshalRes, Marshal, MayRes, May.
-/
import Derived.Test.YtbdbmkmebeemoaaGreatDoorValMar
import Derived.Test.YtbdbmkmebeemoaaGreatDoorFldB
import Derived.Test.YtbdbmkmebeemoaaGreatDoorFx
import Derived.Test.YtbdbmkmebeemoaaGreatDoorIn
import Derived.Test.YtbdbmkmebeemoaaGreatDoorScRead
namespace Go.Proofs.YtbdbmkmebeemoaaGreatDoor
open Go.RowKit

theorem bytes_rB (num : Nat) (X : ByteArray) (h1 : 1 ≤ num) (h2 : num ≤ 536870911) (hX : X.size ≤ 1000000) (w : World) :
    Calls Tryz.prog 108 #[.int .i64 (num : Int), .string X] w fun e w' => e = .returned (strV (rB num X.data.toList).raw) ∧ Below w.heap.size w w' := by
  have h := wbytes_any (num : Int) X w (by omega) (by omega) (by omega)
  have e := wrec_raw (num := num) (ty := 2) h1 h2 (by omega) (vput X.size ++ X.data.toList)
  rw [show ((2 : Nat) : Int) = 2 from rfl] at e
  have hz : X.data.toList.length = X.size := by simp
  rw [e, ← hz] at h
  exact h
theorem rB_len20 (num : Nat) (s : List UInt8) : (rB num s).raw.length ≤ 20 + s.length := by
  show (vput (8 * num + 2) ++ (vput s.length ++ s)).length ≤ _
  rw [List.length_append, List.length_append]
  have := vput_le10 (8 * num + 2)
  have := vput_le10 s.length
  omega
theorem wv_var {p : Nat} {d : Int} {ps : List (List UInt8)} {hs : List Hole} {b : Bool} {P : Nat → Prop} {w : World} (num n : Nat) (h : WrH p d ps hs b P w) (hn : n < 18446744073709551616) (h1 : 1 ≤ num) (h2 : num ≤ 536870911) (hl : ps.length ≤ 1000000) (hf : ps.flatten.length ≤ 10000000) :
    Calls Tryz.prog 51 #[.pointer (some ⟨p, 0, none⟩), .int .i64 (num : Int), .int .u64 (n : Int)] w (WvPost p d ps hs b P w true (if n = 0 then [] else (rN num n).raw) 1 20) := by
  have h3 := wv_lift (F := 51) (args := #[.pointer (some ⟨p, 0, none⟩), .int .i64 (num : Int), .int .u64 (n : Int)]) (g := true) (ts := wvarP num n) h (fun vo P0 hw => by simpa using wvar_any p d vo ps b P0 num n w (Lib.hid hw) hn h1 h2 hl hf)
  refine h3.mono fun e w' hp => ?_
  by_cases h0 : n = 0
  · rw [wvarP, if_pos h0] at hp
    rw [if_pos h0]
    exact hp.le (by simp) (by simp)
  · rw [wvarP, if_neg h0] at hp
    rw [if_neg h0]
    have e1 : wrec (num : Int) 0 (vput n) = (rN num n).raw := wrec_raw (num := num) (ty := 0) h1 h2 (by omega) (vput n)
    rw [e1] at hp
    have hl : (rN num n).raw.length ≤ 20 := by
      show (vput (8 * num + 0) ++ vput n).length ≤ 20
      rw [List.length_append]
      have := vput_le10 (8 * num + 0)
      have := vput_le10 n
      omega
    simp only [List.flatten_cons, List.flatten_nil, List.append_nil] at hp
    exact hp.le (by simp) hl
theorem not_wrap_key (c : Bool) : (78 : TypeId) ≠ wrapS c := by cases c <;> decide
/-- where the writer stands, told by its row -/
theorem wrh_row {p : Nat} {d : Int} {ps : List (List UInt8)} {hs : List Hole} {b : Bool} {P : Nat → Prop} {w : World} (h : WrH p d ps hs b P w) : ∃ vp L vo ev, w.heap[p]? = some (.cells #[.int .i64 d, vp, L, vo, ev] 128 (0, 0)) ∧ EV8 b w ev := by
  obtain ⟨vo, P0, ⟨vp, ev, h1, h2, h3, h4⟩, _⟩ := h
  exact ⟨_, _, _, _, h1, h3⟩
set_option maxRecDepth 1000000 in
set_option maxHeartbeats 8000000 in
theorem partk_any (p : Nat) (d d1 : Int) (ps : List (List UInt8)) (hs : List Hole) (b : Bool) (P : Nat → Prop) (w : World) (num F : Nat) (may : Bool) (t : List UInt8) (cs : List Value) (hform : ∃ (K1 : ByteArray) (h1 : Bool) (k1 : Int) (S1 : ByteArray) (b1 : Bool) (n1 : Int) (l1 : Option Addr) (ln1 lc1 : Nat) (m1 : Option Addr) (mn1 mc1 : Nat) (I1 U1 Y1 : ByteArray), cs = [.string K1, .bool h1, .int .i64 k1, .string S1, .bool b1, .int .u64 n1, .slice l1 ln1 lc1, .slice m1 mn1 mc1, .string I1, .string U1, .string Y1]) (hw : Hid (WrH p d ps hs b P w)) (hET : ∀ args w, (callFunc F args).run Tryz.prog w = .ok (.enter F args) w) (hM : Hid (∀ w', Below w.heap.size w w' → Calls Tryz.prog F #[.agg cs.toArray, .int .i64 d1] w' (MarPost may t w'))) (hd1 : IntKind.i64.wrap (d - 1) = d1) (hnum : 1 ≤ num ∧ num ≤ 536870911) (ht : t.length ≤ 1000000) (hl : ps.length ≤ 1000000) (hf : ps.flatten.length + t.length ≤ 9000000) :
    Calls Tryz.prog 78 #[.pointer (some ⟨p, 0, none⟩), .int .i64 (num : Int), .agg cs.toArray, .func (.func F) #[] #[]] w (WvPost p d ps hs b P w may (rB num t).raw 1 (20 + t.length)) := by
  obtain ⟨K1, h1, k1, S1, b1, n1, l1, ln1, lc1, m1, mn1, mc1, I1, U1, Y1, rfl⟩ := hform
  obtain ⟨W0, hW0⟩ : ∃ W0, w.alloc (.cells #[.string K1, .bool h1, .int .i64 k1, .string S1, .bool b1, .int .u64 n1, .slice l1 ln1 lc1, .slice m1 mn1 mc1, .string I1, .string U1, .string Y1] 78) = W0 := ⟨_, rfl⟩
  obtain ⟨bx, hbx⟩ : ∃ bx, w.heap.size = bx := ⟨_, rfl⟩
  have HB0 : Hid (Below w.heap.size w W0) := Lib.hid (by rw [← hW0]; exact below_new _ _)
  have HX0 : Hid (W0.heap[bx]? = some (.cells #[.string K1, .bool h1, .int .i64 k1, .string S1, .bool b1, .int .u64 n1, .slice l1 ln1 lc1, .slice m1 mn1 mc1, .string I1, .string U1, .string Y1] 78 (0, 0))) := Lib.hid (by rw [← hW0, ← hbx]; exact heap_alloc_new _ _)
  have HSO := Lib.hid ((WSo.start hw.out).below HB0.out)
  obtain ⟨vp, L, vo, ev, hrow, hev⟩ := wrh_row (wh_below hw.out HB0.out)
  have HW0 := Lib.hid hW0
  have HBX := Lib.hid hbx
  have hpx : p ≠ bx := by
    obtain ⟨_, _, _, _, h, _⟩ := wrh_row hw.out
    have := row_lt h
    omega
  have k4 : W0.cell? ⟨p, 4, none⟩ = some ev := row_cell hrow (j := 4) rfl
  have HROW := Lib.hid hrow
  cases b with
  | true =>
    obtain ⟨T', y, rfl⟩ := hev.yes.iface
    rw [← hW0] at k4
    clear hev hrow hW0 hbx hd1
    go_enter Tryz.func78, Tryz.ntmps78
    go_wp2_with fail
    go_end0
    rw [HW0.out]
    have h1 := (HSO.out.done.le (l2 := 1) (f2 := 20 + t.length) (by omega) (by omega)).conv (m2 := may) (t2 := (rB num t).raw) (fun h => by cases h) (fun h => by cases h)
    exact h1
  | false =>
    obtain rfl := hev.no
    clear hev hrow
    have HM := Lib.hid (fun w' hb => hM.out w' (below_step HB0.out hb))
    rw [← hW0] at k4
    clear hW0 hbx
    go_enter Tryz.func78, Tryz.ntmps78
    go_wp2_with fail
    go_upto_region 2 with fail
    all_goals
      rw [HW0.out, HBX.out]
      obtain ⟨D, hD⟩ : ∃ D, W0.drew = D := ⟨_, rfl⟩
      have hB : Below W0.heap.size W0 D := by rw [← hD]; exact (Below.refl _ _).drew
      have hS : R2 bx #[.string K1, .bool h1, .int .i64 k1, .string S1, .bool b1, .int .u64 n1, .slice l1 ln1 lc1, .slice m1 mn1 mc1, .string I1, .string U1, .string Y1] 78 p #[.int .i64 d, vp, L, vo, .nilIface] 128 D := ⟨(hB.block _ (row_lt HX0.out)).trans HX0.out, (hB.block _ (row_lt HROW.out)).trans HROW.out⟩
      have hne : Nonempty {w' : World // R2 bx #[.string K1, .bool h1, .int .i64 k1, .string S1, .bool b1, .int .u64 n1, .slice l1 ln1 lc1, .slice m1 mn1 mc1, .string I1, .string U1, .string Y1] 78 p #[.int .i64 d, vp, L, vo, .nilIface] 128 w'} := ⟨⟨_, hS⟩⟩
      refine wp_region_seq (S := R2 bx #[.string K1, .bool h1, .int .i64 k1, .string S1, .bool b1, .int .u64 n1, .slice l1 ln1 lc1, .slice m1 mn1 mc1, .string I1, .string U1, .string Y1] 78 p #[.int .i64 d, vp, L, vo, .nilIface] 128) [(0, true), (1, true), (2, true), (3, true), (4, true), (5, true), (6, true), (7, false), (8, true), (9, true), (10, true), (11, true), (12, true)] (by kernel_rfl) (by kernel_rfl) (by kernel_rfl) (by kernel_rfl) (by rw [hD]; exact hS) ?_
      rw [hD]
      (refine seq_take _ rfl (fun KC hK => ?_); go_simp; (first | refine hK _ ?_ | refine ⟨_, fun _ _ => rfl, hK _ ?_⟩); clear hK KC)
      refine seq_take _ rfl (fun KC hK => ?_); go_simp
      refine ⟨.agg #[.string K1, .bool h1, .int .i64 k1, .string S1, .bool b1, .int .u64 n1, .slice l1 ln1 lc1, .slice m1 mn1 mc1, .string I1, .string U1, .string Y1], fun a ha => by obtain ⟨p0, p1, p2, p3, p4, p5, p6, p7, p8, p9, p10⟩ := row11 ha.1; simp only [p0, p1, p2, p3, p4, p5, p6, p7, p8, p9, p10, Result.andThen], hK _ ?_⟩
      clear hK KC
      iterate 3 (refine seq_take _ rfl (fun KC hK => ?_); go_simp; (first | refine hK _ ?_ | refine ⟨_, fun _ _ => rfl, hK _ ?_⟩); clear hK KC)
      refine seq_take _ rfl (fun KC hK => ?_); go_simp
      refine ⟨.int .i64 d, fun a ha => by rw [row_cell ha.2 (j := 0) rfl]; rfl, hK _ ?_⟩
      clear hK KC
      (refine seq_take _ rfl (fun KC hK => ?_); go_simp; (first | refine hK _ ?_ | refine ⟨_, fun _ _ => rfl, hK _ ?_⟩); clear hK KC)
      refine seq_come _ rfl (fun KC hK => ?_); go_simp
      refine (HM.out D hB).mono ?_; rintro e w1 ⟨hb1, hcase⟩
      have hS1 := hS.below hb1
      have HSO1 := Lib.hid (HSO.out.below (below_step hB hb1))
      cases may with
      | true =>
        rw [if_pos rfl] at hcase
        subst hcase
        go_simp
        refine hK.out _ _ hS1 ?_; clear hK KC
        iterate 5 (refine seq_take _ rfl (fun KC hK => ?_); go_simp; (first | refine hK _ ?_ | refine ⟨_, fun _ _ => rfl, hK _ ?_⟩); clear hK KC)
        refine seq_done ?_
        clear hne hS hS1
        go_wp2_with fail
        refine (bytes_rB num ⟨t.toArray⟩ hnum.1 hnum.2 (by simp [ByteArray.size]; omega) w1).mono ?_; rintro e w2 ⟨rfl, hb2⟩
        have HSO2 := Lib.hid (HSO1.out.below hb2)
        have hr20 := rB_len20 num t
        go_wp2_with fail
        have hwr := HSO2.out.wr
        have hput := wv_put (rB num t).raw hwr (by rw [List.length_append]; have := HSO2.out.len; omega) (by rw [List.flatten_append, List.length_append]; have := HSO2.out.size; omega)
        refine hput.mono ?_; intro e w3 hpost
        obtain ⟨qs2, P2, rfl, hso⟩ := HSO2.out.next hpost
        have HF := Lib.hid hso
        clear hpost hput hwr hso
        go_wp2_with fail
        go_end0
        exact HF.out.done.le (by omega) (by omega)
      | false =>
        rw [if_neg (by simp)] at hcase
        obtain ⟨v, rfl, hec⟩ := hcase
        obtain ⟨T', y, rfl⟩ := hec.iface
        have HEC := Lib.hid hec
        clear hec
        go_simp
        refine hK.out _ _ hS1 ?_; clear hK KC
        iterate 5 (refine seq_take _ rfl (fun KC hK => ?_); go_simp; (first | refine hK _ ?_ | refine ⟨_, fun _ _ => rfl, hK _ ?_⟩); clear hK KC)
        refine seq_done ?_
        clear hne hS hS1
        go_wp2_with fail
        refine (in_any _ _ _ _).mono ?_; rintro e w2 ⟨rfl, rfl⟩
        have HEF := Lib.hid (ec_field (n := (num : Int)) HEC.out)
        have HSO2 := Lib.hid (HSO1.out.below (below_new w1 (.cells #[.int .i64 (num : Int), .iface T' y] 113)))
        go_wp2_with fail
        have hlift := wv_lift (F := 106) (args := #[.pointer (some ⟨p, 0, none⟩), .iface 111 (.pointer (some ⟨w1.heap.size, 0, none⟩))]) (g := false) (ts := []) HSO2.out.wr (fun vo P0 h1 => by rw [Bool.not_false, Bool.or_true, wps_nil]; exact wfail_any p d vo _ _ P0 _ _ _ (Lib.hid h1) HEF)
        refine hlift.mono ?_; intro e w3 hpost
        obtain ⟨qs2, P2, rfl, hso⟩ := HSO2.out.next hpost
        have HF := Lib.hid hso
        clear hpost hlift hso
        go_wp2_with fail
        go_end0
        exact (HF.out.done.le (l2 := 1) (f2 := 20 + t.length) (by simp) (by simp)).conv (m2 := false) (t2 := (rB num t).raw) (fun _ => rfl) (fun _ h => by cases h)
set_option maxRecDepth 1000000 in
set_option maxHeartbeats 8000000 in
theorem listk_any (l : List KV) (p : Nat) (d : Int) (ps : List (List UInt8)) (hs : List Hole) (b : Bool) (P Q : Nat → Prop) (w : World) (num : Nat) (lo : Option Addr) (lc : Nat) (hfit : ksfit l) (ha : KRels w Q l lo 0) (hdis : ∀ k, Q k → ¬ P k) (hw : WrH p d ps hs b P w) (hbd : b = true ∨ 0 ≤ d) (hd : -9223372036854775808 ≤ d ∧ d ≤ 9223372036854775807) (hnum : 1 ≤ num ∧ num ≤ 536870911) (hsz : ps.length + ksw l ≤ 500000 ∧ ps.flatten.length + ksw l ≤ 5000000 ∧ ksw l ≤ 400000) :
    Calls Tryz.prog 49 #[.pointer (some ⟨p, 0, none⟩), .int .i64 (num : Int), .slice lo l.length lc, .func (.func 50) #[] #[]] w (WvPost p d ps hs b P w (kmays l d) (kouts num l) (ksw l) (ksw l)) := by
  have HFIT := Lib.hid hfit
  have HA := Lib.hid (KRels.lt l lo 0 ha)
  have HDIS := Lib.hid hdis
  have HW := Lib.hid hw
  have HBD := Lib.hid hbd
  have HSZ := Lib.hid hsz
  have HNUM := Lib.hid hnum
  have hlen : l.length ≤ 500000 := by have := ksw_len l; omega
  obtain ⟨d1, hd1⟩ : ∃ d1, IntKind.i64.wrap (d - 1) = d1 := ⟨_, rfl⟩
  have HD1 : Hid (0 ≤ d → d1 = d - 1) := Lib.hid (fun h => by rw [← hd1, IntWalk.i64_in _ (by omega)])
  have HD1R : Hid (-9223372036854775808 ≤ d1 ∧ d1 ≤ 9223372036854775807) := Lib.hid (by
    rcases Int.lt_or_le (-9223372036854775808) d with h | h
    · rw [IntWalk.i64_in _ (by omega)] at hd1; omega
    · have e : d = -9223372036854775808 := by omega
      subst e
      have : IntKind.i64.wrap (-9223372036854775808 - 1) = 9223372036854775807 := by decide +kernel
      omega)
  have HQ1 := Lib.hid hd1
  have HE := Lib.hid (enters_of Tryz.func50 (by kernel_rfl) rfl)
  clear hfit ha hdis hw hbd hsz hnum hd hd1
  go_enter Tryz.func49, Tryz.ntmps49
  go_wp2_with fail
  go_loopg [12] l.length (fun k i wr => ∃ (j : Nat) (qs : List (List UInt8)) (P1 : Nat → Prop), i = .int .i64 (j : Int) ∧ j + k = l.length ∧ Hid (WSo p d ps hs b P w (kmays (l.take j) d) (kouts num (l.take j)) (ksw (l.take j)) (ksw (l.take j)) qs P1 wr))
  case atStart => exact ⟨0, [], P, rfl, by omega, Lib.hid (by simpa [kmays, kouts, ksw] using WSo.start HW.out)⟩
  case round =>
    obtain ⟨j, qs, P1, rfl, hj, HSO⟩ := hrel
    have HJ := Lib.hid hj
    clear hj
    by_cases hlt : j < l.length
    · have HAW : Hid (KRels wr (fun k => Q k ∧ k < w.heap.size) l lo 0) := Lib.hid (KRels.upd HSO.out.upd (fun k hk hp => HDIS.out k hk.1 hp) (fun k hk => hk) l lo 0 HA.out)
      obtain ⟨ga, oa, ca, rfl, hga, hca, hra⟩ := krels_at0 HAW.out j hlt
      have hmem := List.getElem_mem hlt
      obtain ⟨x, hx⟩ : ∃ x, l[j] = x := ⟨_, rfl⟩
      have HFX := Lib.hid (ksfit_at HFIT.out x (hx ▸ hmem))
      have HTM : Hid (kmays (l.take (j + 1)) d = (kmays (l.take j) d && (decide (1 ≤ d) && kmay x (d - 1)))) := Lib.hid (by rw [List.take_succ_eq_append_getElem hlt, kmays_app, hx, kmays_one])
      have HTO : Hid (kouts num (l.take (j + 1)) = kouts num (l.take j) ++ (rB num (kout x)).raw) := Lib.hid (by rw [List.take_succ_eq_append_getElem hlt, kouts_app, hx, kouts_one])
      have HTW : Hid (ksw (l.take (j + 1)) = ksw (l.take j) + kw x) := Lib.hid (by rw [List.take_succ_eq_append_getElem hlt, ksw_app, hx, ksw_one])
      have HTB : Hid (ksw (l.take j) + kw x ≤ ksw l) := Lib.hid (by rw [← hx]; exact ksw_at hlt)
      have HKO : Hid ((kout x).length + 20 ≤ kw x) := Lib.hid (by have := kout_le x; have := kw_kb x; omega)
      rw [hx] at hra
      have HRA := Lib.hid hra
      obtain ⟨K1, h1, k1, S1, b1, n1, l1, ln1, lc1, m1, mn1, mc1, I1, U1, Y1, rfl⟩ := hra.form
      have HCA := Lib.hid hca
      obtain ⟨wa, hwa⟩ : ∃ wa, wr.alloc (.cells #[.string K1, .bool h1, .int .i64 k1, .string S1, .bool b1, .int .u64 n1, .slice l1 ln1 lc1, .slice m1 mn1 mc1, .string I1, .string U1, .string Y1] 78) = wa := ⟨_, rfl⟩
      have HBA : Hid (Below wr.heap.size wr wa) := Lib.hid (by rw [← hwa]; exact below_new _ _)
      have HSA := Lib.hid (HSO.out.below HBA.out)
      have HWA := Lib.hid hwa
      have Hpartk_any := Lib.hid (partk_any p d d1 (ps ++ qs) hs (b || !kmays (l.take j) d) P1 wa num 50 (kmayD x d1) (kout x) [.string K1, .bool h1, .int .i64 k1, .string S1, .bool b1, .int .u64 n1, .slice l1 ln1 lc1, .slice m1 mn1 mc1, .string I1, .string U1, .string Y1] ⟨K1, h1, k1, S1, b1, n1, l1, ln1, lc1, m1, mn1, mc1, I1, U1, Y1, rfl⟩ (Lib.hid HSA.out.wr) HE.out (Lib.hid (fun w' hb => kmarshal_any x [.string K1, .bool h1, .int .i64 k1, .string S1, .bool b1, .int .u64 n1, .slice l1 ln1 lc1, .slice m1 mn1 mc1, .string I1, .string U1, .string Y1] _ d1 w' HFX.out ((HRA.out.below HBA.out).below hb) HD1R.out (by have := HTB.out; have := HSZ.out; omega))) HQ1.out HNUM.out (by have := HKO.out; have := HTB.out; have := HSZ.out; omega) (by rw [List.length_append]; have := HSA.out.len; have := HTB.out; have := HSZ.out; omega) (by rw [List.flatten_append, List.length_append]; have := HSA.out.size; have := HKO.out; have := HTB.out; have := HSZ.out; omega))
      clear hx hmem hra hca hwa
      obtain ⟨e0, e1, e2, e3, e4, e5, e6, e7, e8, e9, e10⟩ := cells11 HCA.out
      go_wp2_with fail
      rw [HWA.out]
      refine Hpartk_any.out.mono ?_; intro e w5 hpost
      have hp2 := hpost.conv (m2 := decide (1 ≤ d) && kmay x (d - 1)) (t2 := (rB num (kout x)).raw) (fun hb => by
        have h0 : 0 ≤ d := by
          rcases HBD.out with h | h
          · rw [h] at hb; cases hb
          · exact h
        rw [HD1.out h0, kmayD]
        congr 1
        exact decide_eq_decide.2 (by omega)) (fun _ _ => rfl)
      obtain ⟨qs2, P2, rfl, hso⟩ := HSA.out.next hp2
      rw [← HTM.out, ← HTO.out] at hso
      have HS5 := Lib.hid hso
      clear hpost hp2 hso e0 e1 e2 e3 e4 e5 e6 e7 e8 e9 e10
      go_wp2_with fail
      have hj := HJ.out
      go_roundg (gk - 1)
      case measure => omega
      case rel => exact ⟨j + 1, qs ++ qs2, P2, by simp, by omega, Lib.hid ⟨HS5.out.upd, HS5.out.wr, HS5.out.new, HS5.out.bytes, by have := HS5.out.len; have := HTW.out; have := HKO.out; omega, by have := HS5.out.size; have := HTW.out; have := HKO.out; omega⟩⟩
    · have hjn : j = l.length := by have := HJ.out; omega
      subst hjn
      rw [List.take_length] at HSO
      go_wp2_with fail
      go_end0
      exact HSO.out.done
end Go.Proofs.YtbdbmkmebeemoaaGreatDoor
namespace Go.Proofs.YtbdbmkmebeemoaaGreatDoor
open Go.RowKit

theorem mar_below {w W0 w1 w2 w3 : World} {p : Nat} {P1 : Nat → Prop} (h0 : Below w.heap.size w W0) (hp : W0.heap.size = p) (h1 : Below p W0 w1) (h2 : Upd P1 w1 w2) (hP : ∀ k, P1 k → p ≤ k) (h3 : Below w2.heap.size w2 w3) : Below w.heap.size w w3 :=
  h0.trans ((h1.trans ((h2.below (by have := h1.size; omega) (fun k _ h => hP k h)).trans (h3.mono (by have := h1.size; have := h2.size; omega)))).mono (by have := h0.size; omega))
theorem wbytesP_len (num : Nat) (h1 : 1 ≤ num) (h2 : num ≤ 536870911) (t : List UInt8) : (wbytesP num t).length ≤ 1 ∧ (wbytesP num t).flatten.length ≤ 20 + t.length := by
  unfold wbytesP
  split
  · simp
  · have e := wrec_raw (num := num) (ty := 2) h1 h2 (by omega) (vput t.length ++ t)
    have e2 : wrec (num : Int) 2 (vput t.length ++ t) = (rB num t).raw := e
    rw [e2]
    have := rB_len20 num t
    simp only [List.length_cons, List.length_nil, List.flatten_cons, List.flatten_nil, List.append_nil]
    omega
theorem wbytesP_raw (num : Nat) (h1 : 1 ≤ num) (h2 : num ≤ 536870911) (t : List UInt8) : (wbytesP num t).flatten = if t = [] then [] else (rB num t).raw := by
  unfold wbytesP
  split
  · rfl
  · have e := wrec_raw (num := num) (ty := 2) h1 h2 (by omega) (vput t.length ++ t)
    have e2 : wrec (num : Int) 2 (vput t.length ++ t) = (rB num t).raw := e
    rw [e2]
    simp
theorem u64_wrap32 {n : Nat} (h : n < 4294967296) : IntKind.u64.wrap (n : Int) = (n : Int) := by
  show ((n : Int) % 18446744073709551616) = _
  omega
def rs_may (d : Int) (x : (List KV × Nat) × List UInt8) : Bool := decide (0 ≤ d) && (kmays x.1.1 d && munkOk rsF.tk x.2 d)
def rs_out (x : (List KV × Nat) × List UInt8) : List UInt8 := kouts 1 x.1.1 ++ (if x.1.2 = 0 then [] else (rN 2 x.1.2).raw) ++ x.2
/-- little enough to be written -/
def rs_fit (x : (List KV × Nat) × List UInt8) : Prop := ksfit x.1.1 ∧ x.1.2 < 4294967296 ∧ ksw x.1.1 + x.2.length ≤ 400000
set_option maxRecDepth 1000000 in
set_option maxHeartbeats 8000000 in
theorem rs_marshal (x : (List KV × Nat) × List UInt8) (cs : List Value) (Q : Nat → Prop) (d : Int) (w : World) (hf : rs_fit x) (hr : RsRel w Q x cs) (hd : -9223372036854775808 ≤ d ∧ d ≤ 9223372036854775807) :
    Calls Tryz.prog 26 #[.agg cs.toArray, .int .i64 d] w (MarPost (rs_may d x) (rs_out x) w) := by
  obtain ⟨lo, lc, rfl, hr⟩ := hr
  obtain ⟨⟨l, n⟩, u⟩ := x
  have HR := Lib.hid (KRels.lt _ _ _ hr)
  have HD := Lib.hid hd
  obtain ⟨HFL, HFN, HFw⟩ := hf
  dsimp only at HFL HFN HFw
  obtain ⟨U, hU⟩ : ∃ U : ByteArray, (⟨u.toArray⟩ : ByteArray) = U := ⟨_, rfl⟩
  have HU := Lib.hid hU
  have HFK : Hid (ksw l + u.length ≤ 400000) := Lib.hid HFw
  have HFL := Lib.hid HFL
  have HM := Lib.hid (show rs_may d (((l, n), u)) = rs_may d (((l, n), u)) from rfl)
  dsimp only [strV]
  rw [hU]
  obtain ⟨mx, hmx⟩ : ∃ m, rs_may d (((l, n), u)) = m := ⟨_, rfl⟩
  obtain ⟨ox, hox⟩ : ∃ m, rs_out (((l, n), u)) = m := ⟨_, rfl⟩
  rw [hmx, hox]
  have HMX := Lib.hid hmx
  have HOX := Lib.hid hox
  obtain ⟨W0, hW0⟩ : ∃ W, w.alloc (.cells #[.slice lo l.length lc, .int .u32 (n : Int), .string U] 45) = W := ⟨_, rfl⟩
  obtain ⟨bx, hbx⟩ : ∃ bx, w.heap.size = bx := ⟨_, rfl⟩
  have HB0 : Hid (Below w.heap.size w W0) := Lib.hid (by rw [← hW0]; exact below_new _ _)
  have HX0 : Hid (W0.heap[bx]? = some (.cells #[.slice lo l.length lc, .int .u32 (n : Int), .string U] 45 (0, 0))) := Lib.hid (by rw [← hW0, ← hbx]; exact heap_alloc_new _ _)
  have HW0 := Lib.hid hW0
  have HBX := Lib.hid hbx
  have HET := Lib.hid (enters_of Tryz.func58 (by kernel_rfl) rfl)
  have HFN := Lib.hid HFN
  have q1 := u64_wrap32 HFN.out
  clear hW0 hbx hr hd HM hmx hox hU HFw
  go_enter Tryz.func26, Tryz.ntmps26
  go_wp2_with fail
  rw [HW0.out, HBX.out]
  refine (wmnew_any d W0).mono ?_; rintro e w1 ⟨rfl, hb1, P1, hw1, hp1⟩
  obtain ⟨p, hp⟩ : ∃ p, W0.heap.size = p := ⟨_, rfl⟩
  have hpp : bx < p := by rw [← hp]; exact row_lt HX0.out
  rw [hp] at hw1 hb1 hp1 ⊢
  have HB1 : Hid (Below p W0 w1) := Lib.hid hb1
  have HP1 : Hid (∀ k, P1 k → p ≤ k) := Lib.hid hp1
  have HPE := Lib.hid hp
  have HS := Lib.hid (WSx.start (wh_new hw1) (Below.refl _ _) ((hb1.block _ hpp).trans HX0.out) (fun h => by have := hp1 bx h; omega))
  have HR1 : Hid (KRels w1 (fun k => Q k ∧ k < w.heap.size) l lo 0) := Lib.hid (KRels.upd (Upd.of_new (S := fun _ => False) (HB0.out.trans (hb1.mono (by have := HB0.out.size; omega)))) (fun _ _ h => h) (fun _ h => h) l lo 0 HR.out)
  have HQ1 : Hid (∀ k, Q k ∧ k < w.heap.size → k < p ∧ k < w1.heap.size) := Lib.hid (fun k hk => by have := HB0.out.size; have := hb1.size; omega)
  clear hb1 hw1 hp1 hp
  have xc : w1.cell? ⟨bx, 0, none⟩ = some (.slice lo l.length lc) := HS.out.cell rfl
  go_wp2_with fail
  refine (listk_any l p d _ [] _ _ (fun k => Q k ∧ k < w.heap.size) w1 1 lo lc HFL.out (KRels.upd HS.out.so.upd (fun k hk h => by have := HP1.out k h; have := HQ1.out k hk; omega) (fun _ h => h) l lo 0 HR1.out) (fun k hk h => by have := HQ1.out k hk; rcases HS.out.so.new k h with h | h; (have := HP1.out k h; omega); omega) HS.out.so.wr (by by_cases h : d < 0; (left; simp [h]); (right; omega)) HD.out (by omega) ⟨by have := HS.out.so.len; have := HFK.out; simp only [List.nil_append]; omega, by have := HS.out.so.size; have := HFK.out; simp only [List.nil_append]; omega, by have := HFK.out; omega⟩).mono ?_; intro e w2 hpost
  obtain ⟨qs2, P2, rfl, hs⟩ := HS.out.next hpost
  have HSN := Lib.hid hs
  clear hpost hs HS xc
  have HS := HSN
  clear HSN
  have xc : w2.cell? ⟨bx, 1, none⟩ = some (.int .u32 (n : Int)) := HS.out.cell rfl
  go_wp2_with fail
  refine (wv_var 2 n HS.out.so.wr (by have := HFN.out; omega) (by omega) (by omega) (by have := HS.out.so.len; have := HFK.out; simp only [List.nil_append]; omega) (by have := HS.out.so.size; have := HFK.out; simp only [List.nil_append]; omega)).mono ?_; intro e w3 hpost
  obtain ⟨qs3, P3, rfl, hs⟩ := HS.out.next hpost
  have HSN := Lib.hid hs
  clear hpost hs HS xc
  have HS := HSN
  clear HSN
  have xc : w3.cell? ⟨bx, 2, none⟩ = some (.string U) := HS.out.cell rfl
  go_wp2_with fail
  refine (wv_rest U u rsF.tk 58 HS.out.so.wr HU.out.symm (by have := HFK.out; omega) (by have := HS.out.so.len; have := HFK.out; simp only [List.nil_append]; omega) (by have := HS.out.so.size; have := HFK.out; simp only [List.nil_append]; omega) HET.out (fun r w => rstakes_any r w)).mono ?_; intro e w4 hpost
  obtain ⟨qs4, P4, rfl, hs⟩ := HS.out.next hpost
  have HSN := Lib.hid hs
  clear hpost hs HS xc
  have HS := HSN
  clear HSN
  go_wp2_with fail
  obtain ⟨vo, P0, hwa, _⟩ := HS.out.so.wr
  have HWA := Lib.hid hwa
  have HLB := Lib.hid (And.intro HS.out.so.len HS.out.so.size)
  clear hwa
  refine (wend_any p d vo _ _ P0 _ HWA (by have := HLB.out.1; simp only [List.nil_append]; (have := HFK.out; omega)) (by have := HLB.out.2; simp only [List.nil_append]; (have := HFK.out; omega))).mono ?_; rintro e w9 ⟨hb9, hcase⟩
  have HB9 := Lib.hid (mar_below HB0.out HPE.out HB1.out HS.out.so.upd HP1.out hb9)
  have HBY := Lib.hid HS.out.so.bytes
  obtain ⟨bb, hbb⟩ : ∃ bb, (decide (d < 0) || !(((true && kmays l d) && true) && munkOk rsF.tk u d)) = bb := ⟨_, rfl⟩
  rw [hbb] at hcase HBY
  have HBB : Hid (mx = !bb) := Lib.hid (by
    rw [← HMX.out, ← hbb]
    show (decide (0 ≤ d) && (kmays l d && munkOk rsF.tk u d)) = _
    by_cases h : d < 0
    · rw [decide_eq_true h, decide_eq_false (by omega : ¬ 0 ≤ d)]; rfl
    · rw [decide_eq_false h, decide_eq_true (by omega : 0 ≤ d)]
      simp only [Bool.true_and, Bool.and_true, Bool.false_or, Bool.not_not])
  clear hb9 hbb
  cases bb with
  | true =>
    rw [if_pos rfl] at hcase
    obtain ⟨v, rfl, hec⟩ := hcase
    obtain ⟨T', y, rfl⟩ := hec.iface
    have HEC := Lib.hid hec
    clear hec
    go_wp2_with fail
    go_ret2
    refine ⟨HB9.out, ?_⟩
    rw [HBB.out, if_neg (by simp)]
    exact ⟨_, rfl, HEC.out⟩
  | false =>
    rw [if_neg (by simp)] at hcase
    subst hcase
    have hq9 := HBY.out rfl
    rw [List.nil_append, hq9]
    have hoe : ([] ++ kouts 1 l ++ (if n = 0 then [] else (rN 2 n).raw) ++ u : List UInt8) = ox := by
      rw [← HOX.out]
      unfold rs_out
      dsimp only
      rw [List.nil_append]
    rw [hoe]
    clear hoe hq9
    go_wp2_with fail
    go_ret2
    refine ⟨HB9.out, ?_⟩
    rw [HBB.out, if_pos (show (!false) = true from rfl)]
    rfl
def sc_may (d : Int) (x : (List UInt8 × List UInt8 × List KV × Nat) × List UInt8) : Bool := decide (0 ≤ d) && (((uvalid x.1.1 && uvalid x.1.2.1) && kmays x.1.2.2.1 d) && munkOk scF.tk x.2 d)
def sc_out (x : (List UInt8 × List UInt8 × List KV × Nat) × List UInt8) : List UInt8 := (if x.1.1 = [] then [] else (rB 1 x.1.1).raw) ++ (if x.1.2.1 = [] then [] else (rB 2 x.1.2.1).raw) ++ kouts 3 x.1.2.2.1 ++ (if x.1.2.2.2 = 0 then [] else (rN 4 x.1.2.2.2).raw) ++ x.2
/-- little enough to be written -/
def sc_fit (x : (List UInt8 × List UInt8 × List KV × Nat) × List UInt8) : Prop := ksfit x.1.2.2.1 ∧ x.1.2.2.2 < 4294967296 ∧ x.1.1.length + x.1.2.1.length + ksw x.1.2.2.1 + x.2.length ≤ 400000
set_option maxRecDepth 1000000 in
set_option maxHeartbeats 8000000 in
theorem sc_marshal (x : (List UInt8 × List UInt8 × List KV × Nat) × List UInt8) (cs : List Value) (Q : Nat → Prop) (d : Int) (w : World) (hf : sc_fit x) (hr : ScRel w Q x cs) (hd : -9223372036854775808 ≤ d ∧ d ≤ 9223372036854775807) :
    Calls Tryz.prog 16 #[.agg cs.toArray, .int .i64 d] w (MarPost (sc_may d x) (sc_out x) w) := by
  obtain ⟨lo, lc, rfl, hr⟩ := hr
  obtain ⟨⟨a, b, l, n⟩, u⟩ := x
  have HR := Lib.hid (KRels.lt _ _ _ hr)
  have HD := Lib.hid hd
  obtain ⟨HFL, HFN, HFw⟩ := hf
  dsimp only at HFL HFN HFw
  obtain ⟨U, hU⟩ : ∃ U : ByteArray, (⟨u.toArray⟩ : ByteArray) = U := ⟨_, rfl⟩
  have HU := Lib.hid hU
  have HFK : Hid (a.length + b.length + ksw l + u.length ≤ 400000) := Lib.hid HFw
  have HFL := Lib.hid HFL
  obtain ⟨A, hA⟩ : ∃ U : ByteArray, (⟨a.toArray⟩ : ByteArray) = U := ⟨_, rfl⟩
  obtain ⟨B, hB⟩ : ∃ U : ByteArray, (⟨b.toArray⟩ : ByteArray) = U := ⟨_, rfl⟩
  have HA : Hid (A.data.toList = a) := Lib.hid (by rw [← hA])
  have HBB0 : Hid (B.data.toList = b) := Lib.hid (by rw [← hB])
  have HM := Lib.hid (show sc_may d (((a, b, l, n), u)) = sc_may d (((a, b, l, n), u)) from rfl)
  dsimp only [strV]
  rw [hU, hA, hB]
  obtain ⟨mx, hmx⟩ : ∃ m, sc_may d (((a, b, l, n), u)) = m := ⟨_, rfl⟩
  obtain ⟨ox, hox⟩ : ∃ m, sc_out (((a, b, l, n), u)) = m := ⟨_, rfl⟩
  rw [hmx, hox]
  have HMX := Lib.hid hmx
  have HOX := Lib.hid hox
  obtain ⟨W0, hW0⟩ : ∃ W, w.alloc (.cells #[.string A, .string B, .slice lo l.length lc, .int .u32 (n : Int), .string U] 26) = W := ⟨_, rfl⟩
  obtain ⟨bx, hbx⟩ : ∃ bx, w.heap.size = bx := ⟨_, rfl⟩
  have HB0 : Hid (Below w.heap.size w W0) := Lib.hid (by rw [← hW0]; exact below_new _ _)
  have HX0 : Hid (W0.heap[bx]? = some (.cells #[.string A, .string B, .slice lo l.length lc, .int .u32 (n : Int), .string U] 26 (0, 0))) := Lib.hid (by rw [← hW0, ← hbx]; exact heap_alloc_new _ _)
  have HW0 := Lib.hid hW0
  have HBX := Lib.hid hbx
  have HET := Lib.hid (enters_of Tryz.func32 (by kernel_rfl) rfl)
  have HFN := Lib.hid HFN
  have q1 := u64_wrap32 HFN.out
  clear hW0 hbx hr hd HM hmx hox hU hA hB HFw
  go_enter Tryz.func16, Tryz.ntmps16
  go_wp2_with fail
  rw [HW0.out, HBX.out]
  refine (wmnew_any d W0).mono ?_; rintro e w1 ⟨rfl, hb1, P1, hw1, hp1⟩
  obtain ⟨p, hp⟩ : ∃ p, W0.heap.size = p := ⟨_, rfl⟩
  have hpp : bx < p := by rw [← hp]; exact row_lt HX0.out
  rw [hp] at hw1 hb1 hp1 ⊢
  have HB1 : Hid (Below p W0 w1) := Lib.hid hb1
  have HP1 : Hid (∀ k, P1 k → p ≤ k) := Lib.hid hp1
  have HPE := Lib.hid hp
  have HS := Lib.hid (WSx.start (wh_new hw1) (Below.refl _ _) ((hb1.block _ hpp).trans HX0.out) (fun h => by have := hp1 bx h; omega))
  have HR1 : Hid (KRels w1 (fun k => Q k ∧ k < w.heap.size) l lo 0) := Lib.hid (KRels.upd (Upd.of_new (S := fun _ => False) (HB0.out.trans (hb1.mono (by have := HB0.out.size; omega)))) (fun _ _ h => h) (fun _ h => h) l lo 0 HR.out)
  have HQ1 : Hid (∀ k, Q k ∧ k < w.heap.size → k < p ∧ k < w1.heap.size) := Lib.hid (fun k hk => by have := HB0.out.size; have := hb1.size; omega)
  clear hb1 hw1 hp1 hp
  have xc : w1.cell? ⟨bx, 0, none⟩ = some (.string A) := HS.out.cell rfl
  go_wp2_with fail
  refine ((wv_text 1 A a HS.out.so.wr HA.out (by omega) (by have := HFK.out; omega) (by have := HS.out.so.len; have := HFK.out; simp only [List.nil_append]; omega) (by have := HS.out.so.size; have := HFK.out; simp only [List.nil_append]; omega)).mono (fun _ _ h => h.le (l2 := 1) (f2 := 20 + a.length) (wbytesP_len 1 (by omega) (by omega) a).1 (wbytesP_len 1 (by omega) (by omega) a).2)).mono ?_; intro e w2 hpost
  obtain ⟨qs2, P2, rfl, hs⟩ := HS.out.next hpost
  have HSN := Lib.hid hs
  clear hpost hs HS xc
  have HS := HSN
  clear HSN
  have xc : w2.cell? ⟨bx, 1, none⟩ = some (.string B) := HS.out.cell rfl
  go_wp2_with fail
  refine ((wv_text 2 B b HS.out.so.wr HBB0.out (by omega) (by have := HFK.out; omega) (by have := HS.out.so.len; have := HFK.out; simp only [List.nil_append]; omega) (by have := HS.out.so.size; have := HFK.out; simp only [List.nil_append]; omega)).mono (fun _ _ h => h.le (l2 := 1) (f2 := 20 + b.length) (wbytesP_len 2 (by omega) (by omega) b).1 (wbytesP_len 2 (by omega) (by omega) b).2)).mono ?_; intro e w3 hpost
  obtain ⟨qs3, P3, rfl, hs⟩ := HS.out.next hpost
  have HSN := Lib.hid hs
  clear hpost hs HS xc
  have HS := HSN
  clear HSN
  have xc : w3.cell? ⟨bx, 2, none⟩ = some (.slice lo l.length lc) := HS.out.cell rfl
  go_wp2_with fail
  refine (listk_any l p d _ [] _ _ (fun k => Q k ∧ k < w.heap.size) w3 3 lo lc HFL.out (KRels.upd HS.out.so.upd (fun k hk h => by have := HP1.out k h; have := HQ1.out k hk; omega) (fun _ h => h) l lo 0 HR1.out) (fun k hk h => by have := HQ1.out k hk; rcases HS.out.so.new k h with h | h; (have := HP1.out k h; omega); omega) HS.out.so.wr (by by_cases h : d < 0; (left; simp [h]); (right; omega)) HD.out (by omega) ⟨by have := HS.out.so.len; have := HFK.out; simp only [List.nil_append]; omega, by have := HS.out.so.size; have := HFK.out; simp only [List.nil_append]; omega, by have := HFK.out; omega⟩).mono ?_; intro e w4 hpost
  obtain ⟨qs4, P4, rfl, hs⟩ := HS.out.next hpost
  have HSN := Lib.hid hs
  clear hpost hs HS xc
  have HS := HSN
  clear HSN
  have xc : w4.cell? ⟨bx, 3, none⟩ = some (.int .u32 (n : Int)) := HS.out.cell rfl
  go_wp2_with fail
  refine (wv_var 4 n HS.out.so.wr (by have := HFN.out; omega) (by omega) (by omega) (by have := HS.out.so.len; have := HFK.out; simp only [List.nil_append]; omega) (by have := HS.out.so.size; have := HFK.out; simp only [List.nil_append]; omega)).mono ?_; intro e w5 hpost
  obtain ⟨qs5, P5, rfl, hs⟩ := HS.out.next hpost
  have HSN := Lib.hid hs
  clear hpost hs HS xc
  have HS := HSN
  clear HSN
  have xc : w5.cell? ⟨bx, 4, none⟩ = some (.string U) := HS.out.cell rfl
  go_wp2_with fail
  refine (wv_rest U u scF.tk 32 HS.out.so.wr HU.out.symm (by have := HFK.out; omega) (by have := HS.out.so.len; have := HFK.out; simp only [List.nil_append]; omega) (by have := HS.out.so.size; have := HFK.out; simp only [List.nil_append]; omega) HET.out (fun r w => sctakes_any r w)).mono ?_; intro e w6 hpost
  obtain ⟨qs6, P6, rfl, hs⟩ := HS.out.next hpost
  have HSN := Lib.hid hs
  clear hpost hs HS xc
  have HS := HSN
  clear HSN
  go_wp2_with fail
  obtain ⟨vo, P0, hwa, _⟩ := HS.out.so.wr
  have HWA := Lib.hid hwa
  have HLB := Lib.hid (And.intro HS.out.so.len HS.out.so.size)
  clear hwa
  refine (wend_any p d vo _ _ P0 _ HWA (by have := HLB.out.1; simp only [List.nil_append]; (have := HFK.out; omega)) (by have := HLB.out.2; simp only [List.nil_append]; (have := HFK.out; omega))).mono ?_; rintro e w9 ⟨hb9, hcase⟩
  have HB9 := Lib.hid (mar_below HB0.out HPE.out HB1.out HS.out.so.upd HP1.out hb9)
  have HBY := Lib.hid HS.out.so.bytes
  obtain ⟨bb, hbb⟩ : ∃ bb, (decide (d < 0) || !(((((true && uvalid a) && uvalid b) && kmays l d) && true) && munkOk scF.tk u d)) = bb := ⟨_, rfl⟩
  rw [hbb] at hcase HBY
  have HBB : Hid (mx = !bb) := Lib.hid (by
    rw [← HMX.out, ← hbb]
    show (decide (0 ≤ d) && (((uvalid a && uvalid b) && kmays l d) && munkOk scF.tk u d)) = _
    by_cases h : d < 0
    · rw [decide_eq_true h, decide_eq_false (by omega : ¬ 0 ≤ d)]; rfl
    · rw [decide_eq_false h, decide_eq_true (by omega : 0 ≤ d)]
      simp only [Bool.true_and, Bool.and_true, Bool.false_or, Bool.not_not])
  clear hb9 hbb
  cases bb with
  | true =>
    rw [if_pos rfl] at hcase
    obtain ⟨v, rfl, hec⟩ := hcase
    obtain ⟨T', y, rfl⟩ := hec.iface
    have HEC := Lib.hid hec
    clear hec
    go_wp2_with fail
    go_ret2
    refine ⟨HB9.out, ?_⟩
    rw [HBB.out, if_neg (by simp)]
    exact ⟨_, rfl, HEC.out⟩
  | false =>
    rw [if_neg (by simp)] at hcase
    subst hcase
    have hq9 := HBY.out rfl
    rw [List.nil_append, hq9]
    have hoe : ([] ++ (wbytesP 1 a).flatten ++ (wbytesP 2 b).flatten ++ kouts 3 l ++ (if n = 0 then [] else (rN 4 n).raw) ++ u : List UInt8) = ox := by
      rw [← HOX.out]
      unfold sc_out
      dsimp only
      rw [wbytesP_raw 1 (by omega) (by omega), wbytesP_raw 2 (by omega) (by omega), List.nil_append]
    rw [hoe]
    clear hoe hq9
    go_wp2_with fail
    go_ret2
    refine ⟨HB9.out, ?_⟩
    rw [HBB.out, if_pos (show (!false) = true from rfl)]
    rfl
end Go.Proofs.YtbdbmkmebeemoaaGreatDoor
