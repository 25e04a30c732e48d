/-
  slices.Equal of quantiles; summ.Same: any two.
-/
import Derived.Test.YthpngihcjbmmkaaGreatDoorQuTakes
import Derived.Test.YthpngihcjbmmkaaGreatDoorSuBack
import Derived.Test.YthpngihcjbmmkaaGreatDoorValSame
import Derived.Test.YthpngihcjbmmkaaGreatDoorAlikeB
namespace Go.Proofs.YthpngihcjbmmkaaGreatDoor
open Go.RowKit

set_option maxRecDepth 1000000 in
set_option maxHeartbeats 8000000 in
theorem eqfqu_any (l : List Qu) (m : List Qu) (lo mo : Option Addr) (lc mc : Nat) (P Q : Nat → Prop) (w : World) (hl : l.length ≤ 9223372036854775807) (ha : CRels quCel w P l lo) (hb : CRels quCel w Q m mo) :
    Calls Tryz.prog 90 #[.slice lo l.length lc, .slice mo m.length mc] w fun e w' => e = .returned (.bool (alike l m)) ∧ Below w.heap.size w w' := by
  have HA := Lib.hid ha
  have HB := Lib.hid hb
  clear ha hb
  by_cases hlen : l.length = m.length
  case neg =>
    have HR : Hid (alike l m = false) := Lib.hid (alike_no fun h => hlen (by rw [h]))
    have d1 : ((l.length : Int) != (m.length : Int)) = true := by rw [bne_iff_ne]; omega
    rw [HR.out]
    clear hlen
    go_enter Tryz.func90, Tryz.ntmps90
    go_wp2_with fail
    go_ret
    exact ⟨rfl, Below.refl _ _⟩
  case pos =>
    obtain ⟨r, HR⟩ : ∃ r, Hid (alike l m = r) := ⟨_, Lib.hid rfl⟩
    rw [HR.out]
    have d1 : ((l.length : Int) != (m.length : Int)) = false := by rw [bne_eq_false_iff_eq]; omega
    have HLEN := Lib.hid hlen
    clear hlen
    go_enter Tryz.func90, Tryz.ntmps90
    go_wp2_with fail
    go_loopg [13] l.length (fun k i wr => ∃ j : Nat, i = .int .i64 (j : Int) ∧ j + k = l.length ∧ Below w.heap.size w wr ∧ Hid (l.take j = m.take j))
    case atStart => exact ⟨0, rfl, by omega, Below.refl _ _, Lib.hid rfl⟩
    case round =>
      obtain ⟨j, rfl, hj, hbr, HEQ⟩ := hrel
      have HBR := Lib.hid hbr
      have HJ := Lib.hid hj
      clear hbr hj
      by_cases hlt : j < l.length
      · have hltm : j < m.length := by have := HLEN.out; omega
        obtain ⟨ga, oa, ca, rfl, _, hga, hca, hra⟩ := (HA.out.below HBR.out) j hlt
        obtain ⟨gb, ob, cb, rfl, _, hgb, hcb, hrb⟩ := (HB.out.below HBR.out) j hltm
        have hca : Cells wr ga (oa + 3 * j) ca := hca
        have hcb : Cells wr gb (ob + 3 * j) cb := hcb
        have HRA := Lib.hid hra
        have HRB := Lib.hid hrb
        have HCA := Lib.hid hca
        have HCB := Lib.hid hcb
        clear hca hcb
        obtain ⟨⟨⟨q1, v1⟩, u1⟩, hx1⟩ : ∃ x, l[j] = x := ⟨_, rfl⟩
        obtain ⟨⟨⟨q2, v2⟩, u2⟩, hx2⟩ : ∃ x, m[j] = x := ⟨_, rfl⟩
        rw [hx1] at hra
        rw [hx2] at hrb
        have hra : ca = [.int .u64 (q1 : Int), .int .u64 (v1 : Int), strV u1] := hra
        have hrb : cb = [.int .u64 (q2 : Int), .int .u64 (v2 : Int), strV u2] := hrb
        subst hra hrb
        unfold strV at HCA HCB
        obtain ⟨X1, hX1⟩ : ∃ X : ByteArray, (⟨u1.toArray⟩ : ByteArray) = X := ⟨_, rfl⟩
        obtain ⟨X2, hX2⟩ : ∃ X : ByteArray, (⟨u2.toArray⟩ : ByteArray) = X := ⟨_, rfl⟩
        have g1 : X1.data.toList = u1 := by rw [← hX1]
        have g2 : X2.data.toList = u2 := by rw [← hX2]
        rw [hX1] at HCA
        rw [hX2] at HCB
        obtain ⟨bb, hbb⟩ : ∃ bb, alike l[j] m[j] = bb := ⟨_, rfl⟩
        have HBB := Lib.hid hbb
        have HNE : Hid (bb = (decide ((q1 : Int) = (q2 : Int)) && decide ((v1 : Int) = (v2 : Int)) && decide (X1.toList = X2.toList))) := Lib.hid (by
          rw [← hbb, hx1, hx2]
          by_cases h1 : q1 = q2
          · by_cases h2 : v1 = v2
            · by_cases h3 : X1.toList = X2.toList
              · have h4 : u1 = u2 := by
                  have h5 := h3
                  rw [ByteArray.toList_eq, ByteArray.toList_eq] at h5
                  rw [← g1, ← g2]; exact h5
                rw [alike_yes (by rw [h1, h2, h4])]
                simp [h1, h2, h3]
              · rw [alike_no (fun h => h3 (by simp only [Prod.mk.injEq] at h; rw [← hX1, ← hX2, h.2]))]
                simp [h3]
            · rw [alike_no (fun h => h2 (by simp only [Prod.mk.injEq] at h; exact h.1.2)), decide_eq_false (by omega : ¬ (v1 : Int) = (v2 : Int))]
              simp
          · rw [alike_no (fun h => h1 (by simp only [Prod.mk.injEq] at h; exact h.1.1)), decide_eq_false (by omega : ¬ (q1 : Int) = (q2 : Int))]
            rfl)
        clear hbb hx1 hx2 hX1 hX2 g1 g2
        go_wp2_with fail
        obtain ⟨D, hD⟩ : ∃ D, wr.drew = D := ⟨_, rfl⟩
        have HBD : Hid (Below wr.heap.size wr D) := Lib.hid (by rw [← hD]; exact (Below.refl _ _).drew)
        have hS : Two D ga (oa + 3 * j) [.int .u64 (q1 : Int), .int .u64 (v1 : Int), .string X1] gb (ob + 3 * j) [.int .u64 (q2 : Int), .int .u64 (v2 : Int), .string X2] := ⟨HCA.out.below HBD.out hga, HCB.out.below HBD.out hgb⟩
        have hne : Nonempty {w' : World // Two w' ga (oa + 3 * j) [.int .u64 (q1 : Int), .int .u64 (v1 : Int), .string X1] gb (ob + 3 * j) [.int .u64 (q2 : Int), .int .u64 (v2 : Int), .string X2]} := ⟨⟨_, hS⟩⟩
        refine wp_region_seq (S := fun w' => Two w' ga (oa + 3 * j) [.int .u64 (q1 : Int), .int .u64 (v1 : Int), .string X1] gb (ob + 3 * j) [.int .u64 (q2 : Int), .int .u64 (v2 : Int), .string X2]) [(0, true), (1, true), (2, true), (3, true), (4, true), (5, true), (6, true), (7, true), (8, true)] (by kernel_rfl) (by kernel_rfl) (by kernel_rfl) (by kernel_rfl) (by rw [hD]; exact hS) ?_
        rw [hD]
        clear hD
        iterate 2 (refine seq_take _ rfl (fun K2 hK => ?_); go_simp; (first | refine hK _ ?_ | refine ⟨_, fun _ _ => rfl, hK _ ?_⟩); clear hK K2)
        refine seq_take _ rfl (fun K2 hK => ?_); go_simp
        (first | refine hK _ ?_ | refine ⟨.pointer (some ⟨ga, oa + j * 3, none⟩), fun _ _ => if_pos (by omega), hK _ ?_⟩)
        clear hK K2
        refine seq_take _ rfl (fun K2 hK => ?_); go_simp
        refine ⟨.agg #[.int .u64 (q1 : Int), .int .u64 (v1 : Int), .string X1], fun a ha => by obtain ⟨ea0, ea1, ea2⟩ := cells3 ha.1; simp only [ea0, ea1, ea2, Result.andThen], hK _ ?_⟩
        clear hK K2
        iterate 2 (refine seq_take _ rfl (fun K2 hK => ?_); go_simp; (first | refine hK _ ?_ | refine ⟨_, fun _ _ => rfl, hK _ ?_⟩); clear hK K2)
        refine seq_take _ rfl (fun K2 hK => ?_); go_simp
        (first | refine hK _ ?_ | refine ⟨.pointer (some ⟨gb, ob + j * 3, none⟩), fun _ _ => if_pos (by omega), hK _ ?_⟩)
        clear hK K2
        refine seq_take _ rfl (fun K2 hK => ?_); go_simp
        refine ⟨.agg #[.int .u64 (q2 : Int), .int .u64 (v2 : Int), .string X2], fun a ha => by obtain ⟨eb0, eb1, eb2⟩ := cells3 ha.2; simp only [eb0, eb1, eb2, Result.andThen], hK _ ?_⟩
        clear hK K2
        refine seq_take _ rfl (fun K2 hK => ?_); go_simp
        refine ⟨.bool (!bb), fun _ _ => by rw [HNE.out]; by_cases h1 : (q1 : Int) = (q2 : Int) <;> by_cases h2 : (v1 : Int) = (v2 : Int) <;> by_cases h3 : X1.toList = X2.toList <;> simp [h1, h2, h3], hK _ ?_⟩
        clear hK K2
        refine seq_done ?_
        clear hne hS
        have HBW := Lib.hid (below_step HBR.out HBD.out)
        cases bb with
        | true =>
          have HE := Lib.hid (alike_iff.1 HBB.out)
          go_wp2_with fail
          have hj := HJ.out
          go_roundg (gk - 1)
          case measure => omega
          case rel => exact ⟨j + 1, by simp, by omega, HBW.out, Lib.hid (by rw [List.take_succ_eq_append_getElem hlt, List.take_succ_eq_append_getElem hltm, HEQ.out, HE.out])⟩
        | false =>
          have hr : r = false := by rw [← HR.out]; exact alike_no (fun h => by have := HBB.out; subst h; rw [alike_yes rfl] at this; cases this)
          subst hr
          go_wp2_with fail
          go_ret
          exact ⟨rfl, HBW.out⟩
      · have hjn : j = l.length := by have := HJ.out; omega
        have hr : r = true := by
          rw [← HR.out]
          refine alike_yes ?_
          have h := HEQ.out
          rw [hjn, List.take_length, HLEN.out, List.take_length] at h
          exact h
        subst hr
        clear hjn
        go_wp2_with fail
        go_ret
        exact ⟨rfl, HBR.out⟩
set_option maxRecDepth 1000000 in
set_option maxHeartbeats 16000000 in
theorem su_same (x y : Su) (ca cb : List Value) (P Q : Nat → Prop) (w : World) (harg : su_arg x) (ha : suCel.R w P x ca) (hb : suCel.R w Q y cb) :
 Calls Tryz.prog 37 #[.agg ca.toArray, .agg cb.toArray] w fun e w' => e = .returned (.bool (alike x y)) ∧ Below w.heap.size w w' := by
 obtain ⟨⟨a1, ⟨t1, ⟨k1, ⟨n1, ⟨qs1, ⟨l1, f1⟩⟩⟩⟩⟩⟩, u1⟩ := x
 obtain ⟨⟨a2, ⟨t2, ⟨k2, ⟨n2, ⟨qs2, ⟨l2, f2⟩⟩⟩⟩⟩⟩, u2⟩ := y
 obtain ⟨lo1, lc1, qo1, qc1, rfl, ral, raqs⟩ := ha
 obtain ⟨lo2, lc2, qo2, qc2, rfl, rbl, rbqs⟩ := hb
 obtain ⟨_, _, _, _, hfqs1, hzqs1, _, hll1, hzl1, _, _⟩ := harg
 have HRAl := Lib.hid ral
 have HRBl := Lib.hid rbl
 have HRAqs := Lib.hid raqs
 have HRBqs := Lib.hid rbqs
 have HLENl := Lib.hid hzl1
 have HLIMl := Lib.hid hll1
 have HLENqs := Lib.hid hzqs1
 clear ral rbl raqs rbqs hzl1 hll1 hzqs1 hfqs1
 dsimp only [strV]
 obtain ⟨Xu1, hu1⟩ : ∃ X : ByteArray, (⟨u1.toArray⟩ : ByteArray) = X := ⟨_, rfl⟩
 have gu1 : Xu1.data.toList = u1 := by rw [← hu1]
 obtain ⟨Xu2, hu2⟩ : ∃ X : ByteArray, (⟨u2.toArray⟩ : ByteArray) = X := ⟨_, rfl⟩
 have gu2 : Xu2.data.toList = u2 := by rw [← hu2]
 rw [hu1, hu2]
 clear hu1 hu2
 obtain ⟨W, hW⟩ : ∃ W, (w.alloc (.cells #[.slice lo1 l1.length lc1, .int .u64 (a1 : Int), .int .u64 (t1 : Int), .int .u64 (k1 : Int), .int .u64 (n1 : Int), .slice qo1 qs1.length qc1, .int .u32 (f1 : Int), .string Xu1] 52)).alloc (.cells #[.slice lo2 l2.length lc2, .int .u64 (a2 : Int), .int .u64 (t2 : Int), .int .u64 (k2 : Int), .int .u64 (n2 : Int), .slice qo2 qs2.length qc2, .int .u32 (f2 : Int), .string Xu2] 52) = W := ⟨_, rfl⟩
 have HBW : Hid (Below w.heap.size w W) := Lib.hid (by rw [← hW]; exact below_step (below_new _ _) (below_new _ _))
 have HXA : Hid (W.heap[w.heap.size]? = some (.cells #[.slice lo1 l1.length lc1, .int .u64 (a1 : Int), .int .u64 (t1 : Int), .int .u64 (k1 : Int), .int .u64 (n1 : Int), .slice qo1 qs1.length qc1, .int .u32 (f1 : Int), .string Xu1] 52 (0, 0))) := Lib.hid (by rw [← hW]; exact (Below.heap_alloc _ _ _ (by simp)).trans (heap_alloc_new w _))
 have HXB : Hid (W.heap[w.heap.size + 1]? = some (.cells #[.slice lo2 l2.length lc2, .int .u64 (a2 : Int), .int .u64 (t2 : Int), .int .u64 (k2 : Int), .int .u64 (n2 : Int), .slice qo2 qs2.length qc2, .int .u32 (f2 : Int), .string Xu2] 52 (0, 0))) := Lib.hid (by rw [← hW]; have := heap_alloc_new (w.alloc (.cells #[.slice lo1 l1.length lc1, .int .u64 (a1 : Int), .int .u64 (t1 : Int), .int .u64 (k1 : Int), .int .u64 (n1 : Int), .slice qo1 qs1.length qc1, .int .u32 (f1 : Int), .string Xu1] 52)) (.cells #[.slice lo2 l2.length lc2, .int .u64 (a2 : Int), .int .u64 (t2 : Int), .int .u64 (k2 : Int), .int .u64 (n2 : Int), .slice qo2 qs2.length qc2, .int .u32 (f2 : Int), .string Xu2] 52); simpa using this)
 have HKl := Lib.hid (fun w' (hb : Below w.heap.size w w') => keys_same l1 l2 lo1 lo2 lc1 lc2 P Q w' HLENl.out HLIMl.out (HRAl.out.below hb) (HRBl.out.below hb))
 have HKqs := Lib.hid (fun w' (hb : Below w.heap.size w w') => eqfqu_any qs1 qs2 qo1 qo2 qc1 qc2 P Q w' HLENqs.out (HRAqs.out.below hb) (HRBqs.out.below hb))
 have HW := Lib.hid hW
 clear hW
 by_cases ea : a1 = a2
 case neg =>
  have da : ((a1 : Int) == (a2 : Int)) = false := by rw [beq_eq_false_iff_ne]; omega
  rw [alike_no (x := ((a1, (t1, (k1, (n1, (qs1, (l1, f1)))))), u1)) (y := ((a2, (t2, (k2, (n2, (qs2, (l2, f2)))))), u2)) (fun h => ea (by simp only [Prod.mk.injEq] at h; exact h.1.1))]
  clear  ea gu1 gu2
  go_enter Tryz.func37, Tryz.ntmps37
  go_wp2_with fail
  rw [HW.out]
  go_ret
  exact ⟨rfl, HBW.out⟩
 case pos =>
  have da : ((a1 : Int) == (a2 : Int)) = true := by rw [beq_iff_eq]; omega
  by_cases et : t1 = t2
  case neg =>
   have dt : ((t1 : Int) == (t2 : Int)) = false := by rw [beq_eq_false_iff_ne]; omega
   rw [alike_no (x := ((a1, (t1, (k1, (n1, (qs1, (l1, f1)))))), u1)) (y := ((a2, (t2, (k2, (n2, (qs2, (l2, f2)))))), u2)) (fun h => et (by simp only [Prod.mk.injEq] at h; exact h.1.2.1))]
   clear ea et gu1 gu2
   go_enter Tryz.func37, Tryz.ntmps37
   go_wp2_with fail
   rw [HW.out]
   go_ret
   exact ⟨rfl, HBW.out⟩
  case pos =>
   have dt : ((t1 : Int) == (t2 : Int)) = true := by rw [beq_iff_eq]; omega
   by_cases ek : k1 = k2
   case neg =>
    have dk : ((k1 : Int) == (k2 : Int)) = false := by rw [beq_eq_false_iff_ne]; omega
    rw [alike_no (x := ((a1, (t1, (k1, (n1, (qs1, (l1, f1)))))), u1)) (y := ((a2, (t2, (k2, (n2, (qs2, (l2, f2)))))), u2)) (fun h => ek (by simp only [Prod.mk.injEq] at h; exact h.1.2.2.1))]
    clear ea et ek gu1 gu2
    go_enter Tryz.func37, Tryz.ntmps37
    go_wp2_with fail
    rw [HW.out]
    go_ret
    exact ⟨rfl, HBW.out⟩
   case pos =>
    have dk : ((k1 : Int) == (k2 : Int)) = true := by rw [beq_iff_eq]; omega
    by_cases en : n1 = n2
    case neg =>
     have dn : ((n1 : Int) == (n2 : Int)) = false := by rw [beq_eq_false_iff_ne]; omega
     rw [alike_no (x := ((a1, (t1, (k1, (n1, (qs1, (l1, f1)))))), u1)) (y := ((a2, (t2, (k2, (n2, (qs2, (l2, f2)))))), u2)) (fun h => en (by simp only [Prod.mk.injEq] at h; exact h.1.2.2.2.1))]
     clear ea et ek en gu1 gu2
     go_enter Tryz.func37, Tryz.ntmps37
     go_wp2_with fail
     rw [HW.out]
     go_ret
     exact ⟨rfl, HBW.out⟩
    case pos =>
     have dn : ((n1 : Int) == (n2 : Int)) = true := by rw [beq_iff_eq]; omega
     by_cases ef : f1 = f2
     case neg =>
      have df : ((f1 : Int) == (f2 : Int)) = false := by rw [beq_eq_false_iff_ne]; omega
      rw [alike_no (x := ((a1, (t1, (k1, (n1, (qs1, (l1, f1)))))), u1)) (y := ((a2, (t2, (k2, (n2, (qs2, (l2, f2)))))), u2)) (fun h => ef (by simp only [Prod.mk.injEq] at h; exact h.1.2.2.2.2.2.2))]
      clear ea et ek en ef gu1 gu2
      go_enter Tryz.func37, Tryz.ntmps37
      go_wp2_with fail
      rw [HW.out]
      go_ret
      exact ⟨rfl, HBW.out⟩
     case pos =>
      have df : ((f1 : Int) == (f2 : Int)) = true := by rw [beq_iff_eq]; omega
      by_cases eu : u1 = u2
      case neg =>
       have du := (text_ne gu1 gu2 eu).2
       rw [alike_no (x := ((a1, (t1, (k1, (n1, (qs1, (l1, f1)))))), u1)) (y := ((a2, (t2, (k2, (n2, (qs2, (l2, f2)))))), u2)) (fun h => eu (by simp only [Prod.mk.injEq] at h; exact h.2))]
       clear ea et ek en ef eu gu1 gu2
       go_enter Tryz.func37, Tryz.ntmps37
       go_wp2_with fail
       rw [HW.out]
       go_ret
       exact ⟨rfl, HBW.out⟩
      case pos =>
       obtain rfl := ba_same gu1 gu2 eu
       cases hkqs : alike qs1 qs2 with
       | false =>
        have hlqs : ¬ qs1 = qs2 := fun h => by rw [alike_yes h] at hkqs; cases hkqs
        rw [alike_no (x := ((a1, (t1, (k1, (n1, (qs1, (l1, f1)))))), u1)) (y := ((a2, (t2, (k2, (n2, (qs2, (l2, f2)))))), u2)) (fun h => hlqs (by simp only [Prod.mk.injEq] at h; exact h.1.2.2.2.2.1))]
        clear hlqs ea et ek en ef eu gu1 gu2
        go_enter Tryz.func37, Tryz.ntmps37
        go_wp2_with fail
        rw [HW.out]
        refine (HKqs.out W HBW.out).mono ?_; rintro e w4 ⟨rfl, hb4⟩
        rw [hkqs]
        have HAw4 := Lib.hid ((hb4.block _ (row_lt HXA.out)).trans HXA.out)
        have HQw4 := Lib.hid ((hb4.block _ (row_lt HXB.out)).trans HXB.out)
        have HBw4 := Lib.hid (below_step HBW.out hb4)
        clear hb4
        obtain ⟨xa0, xa1, xa2, xa3, xa4, xa5, xa6, xa7⟩ := row8 HAw4.out
        obtain ⟨xb0, xb1, xb2, xb3, xb4, xb5, xb6, xb7⟩ := row8 HQw4.out
        go_wp2_with fail
        go_ret
        exact ⟨rfl, HBw4.out⟩
       | true =>
        have hlqs : qs1 = qs2 := alike_iff.1 hkqs
        cases hkl : alike l1 l2 with
        | false =>
         have hll : ¬ l1 = l2 := fun h => by rw [alike_yes h] at hkl; cases hkl
         rw [alike_no (x := ((a1, (t1, (k1, (n1, (qs1, (l1, f1)))))), u1)) (y := ((a2, (t2, (k2, (n2, (qs2, (l2, f2)))))), u2)) (fun h => hll (by simp only [Prod.mk.injEq] at h; exact h.1.2.2.2.2.2.1))]
         clear hll ea et ek en ef eu hlqs gu1 gu2
         go_enter Tryz.func37, Tryz.ntmps37
         go_wp2_with fail
         rw [HW.out]
         refine (HKqs.out W HBW.out).mono ?_; rintro e w4 ⟨rfl, hb4⟩
         rw [hkqs]
         have HAw4 := Lib.hid ((hb4.block _ (row_lt HXA.out)).trans HXA.out)
         have HQw4 := Lib.hid ((hb4.block _ (row_lt HXB.out)).trans HXB.out)
         have HBw4 := Lib.hid (below_step HBW.out hb4)
         clear hb4
         obtain ⟨xa0, xa1, xa2, xa3, xa4, xa5, xa6, xa7⟩ := row8 HAw4.out
         obtain ⟨xb0, xb1, xb2, xb3, xb4, xb5, xb6, xb7⟩ := row8 HQw4.out
         go_wp2_with fail
         clear xa0 xb0 xa1 xb1 xa2 xb2 xa3 xb3 xa4 xb4 xa5 xb5 xa6 xb6 xa7 xb7
         refine (HKl.out w4 HBw4.out).mono ?_; rintro e w5 ⟨rfl, hb4⟩
         rw [hkl]
         have HAw5 := Lib.hid ((hb4.block _ (row_lt HAw4.out)).trans HAw4.out)
         have HQw5 := Lib.hid ((hb4.block _ (row_lt HQw4.out)).trans HQw4.out)
         have HBw5 := Lib.hid (below_step HBw4.out hb4)
         clear hb4
         obtain ⟨xa0, xa1, xa2, xa3, xa4, xa5, xa6, xa7⟩ := row8 HAw5.out
         obtain ⟨xb0, xb1, xb2, xb3, xb4, xb5, xb6, xb7⟩ := row8 HQw5.out
         go_wp2_with fail
         go_ret
         exact ⟨rfl, HBw5.out⟩
        | true =>
         have hll : l1 = l2 := alike_iff.1 hkl
         rw [alike_yes (x := ((a1, (t1, (k1, (n1, (qs1, (l1, f1)))))), u1)) (y := ((a2, (t2, (k2, (n2, (qs2, (l2, f2)))))), u2)) (by rw [ea, et, ek, en, ef, eu, hlqs, hll])]
         clear ea et ek en ef eu hlqs hll gu1 gu2
         go_enter Tryz.func37, Tryz.ntmps37
         go_wp2_with fail
         rw [HW.out]
         refine (HKqs.out W HBW.out).mono ?_; rintro e w4 ⟨rfl, hb4⟩
         rw [hkqs]
         have HAw4 := Lib.hid ((hb4.block _ (row_lt HXA.out)).trans HXA.out)
         have HQw4 := Lib.hid ((hb4.block _ (row_lt HXB.out)).trans HXB.out)
         have HBw4 := Lib.hid (below_step HBW.out hb4)
         clear hb4
         obtain ⟨xa0, xa1, xa2, xa3, xa4, xa5, xa6, xa7⟩ := row8 HAw4.out
         obtain ⟨xb0, xb1, xb2, xb3, xb4, xb5, xb6, xb7⟩ := row8 HQw4.out
         go_wp2_with fail
         clear xa0 xb0 xa1 xb1 xa2 xb2 xa3 xb3 xa4 xb4 xa5 xb5 xa6 xb6 xa7 xb7
         refine (HKl.out w4 HBw4.out).mono ?_; rintro e w5 ⟨rfl, hb4⟩
         rw [hkl]
         have HAw5 := Lib.hid ((hb4.block _ (row_lt HAw4.out)).trans HAw4.out)
         have HQw5 := Lib.hid ((hb4.block _ (row_lt HQw4.out)).trans HQw4.out)
         have HBw5 := Lib.hid (below_step HBw4.out hb4)
         clear hb4
         obtain ⟨xa0, xa1, xa2, xa3, xa4, xa5, xa6, xa7⟩ := row8 HAw5.out
         obtain ⟨xb0, xb1, xb2, xb3, xb4, xb5, xb6, xb7⟩ := row8 HQw5.out
         go_wp2_with fail
         go_ret
         exact ⟨rfl, HBw5.out⟩
end Go.Proofs.YthpngihcjbmmkaaGreatDoor
