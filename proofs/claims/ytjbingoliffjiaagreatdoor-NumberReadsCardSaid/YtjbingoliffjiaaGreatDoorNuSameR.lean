/-
  hygref.Number: any two.
-/
import Derived.Test.YtjbingoliffjiaaGreatDoorNuBack
import Derived.Test.YtjbingoliffjiaaGreatDoorExEqfR
set_option maxRecDepth 1000000
set_option maxHeartbeats 16000000
namespace Go.Proofs.YtjbingoliffjiaaGreatDoor
open Go.RowKit
theorem nu_ref (x y : Nu) (ca cb : List Value) (P Q : Nat → Prop) (w : World) (harg : nu_arg x) (ha : nuCel.R w P x ca) (hb : nuCel.R w Q y cb) :
 Calls Tryz.prog 14 #[.agg ca.toArray, .agg cb.toArray] w fun e w' => e = .returned (.bool (alike x y)) ∧ Below w.heap.size w w' := by
 obtain ⟨⟨a1, ⟨t1, ⟨⟨⟨k1, n1⟩, es1⟩, ⟨l1, f1⟩⟩⟩⟩, u1⟩ := x
 obtain ⟨⟨a2, ⟨t2, ⟨⟨⟨k2, n2⟩, es2⟩, ⟨l2, f2⟩⟩⟩⟩, u2⟩ := y
 obtain ⟨lo1, lc1, eo1, ec1, rfl, ral, raes⟩ := ha
 obtain ⟨lo2, lc2, eo2, ec2, rfl, rbl, rbes⟩ := hb
 obtain ⟨_, _, _, hfes1, hzes1, _, hll1, hzl1, _, _⟩ := harg
 have HRAl := Lib.hid ral
 have HRBl := Lib.hid rbl
 have HRAes := Lib.hid raes
 have HRBes := Lib.hid rbes
 have HLENl := Lib.hid hzl1
 have HLIMl := Lib.hid hll1
 have HLENes := Lib.hid hzes1
 have HLIMes := Lib.hid hfes1
 clear ral rbl raes rbes hzl1 hll1 hzes1 hfes1
 dsimp only [strV]
 obtain ⟨Xu1, hu1⟩ : ∃ X : ByteArray, (⟨u1.toArray⟩ : ByteArray) = X := ⟨_, rfl⟩
 have gu1 : Xu1.data.toList = u1 := by rw [← hu1]
 obtain ⟨Xu2, hu2⟩ : ∃ X : ByteArray, (⟨u2.toArray⟩ : ByteArray) = X := ⟨_, rfl⟩
 have gu2 : Xu2.data.toList = u2 := by rw [← hu2]
 rw [hu1, hu2]
 clear hu1 hu2
 obtain ⟨W, hW⟩ : ∃ W, (w.alloc (.cells #[.slice lo1 l1.length lc1, .int .u64 (a1 : Int), .int .u64 (t1 : Int), .int .i64 k1, .int .u64 (n1 : Int), .slice eo1 es1.length ec1, .int .u32 (f1 : Int), .string Xu1] 28)).alloc (.cells #[.slice lo2 l2.length lc2, .int .u64 (a2 : Int), .int .u64 (t2 : Int), .int .i64 k2, .int .u64 (n2 : Int), .slice eo2 es2.length ec2, .int .u32 (f2 : Int), .string Xu2] 28) = W := ⟨_, rfl⟩
 have HBW : Hid (Below w.heap.size w W) := Lib.hid (by rw [← hW]; exact below_step (below_new _ _) (below_new _ _))
 have HXA : Hid (W.heap[w.heap.size]? = some (.cells #[.slice lo1 l1.length lc1, .int .u64 (a1 : Int), .int .u64 (t1 : Int), .int .i64 k1, .int .u64 (n1 : Int), .slice eo1 es1.length ec1, .int .u32 (f1 : Int), .string Xu1] 28 (0, 0))) := Lib.hid (by rw [← hW]; exact (Below.heap_alloc _ _ _ (by simp)).trans (heap_alloc_new w _))
 have HXB : Hid (W.heap[w.heap.size + 1]? = some (.cells #[.slice lo2 l2.length lc2, .int .u64 (a2 : Int), .int .u64 (t2 : Int), .int .i64 k2, .int .u64 (n2 : Int), .slice eo2 es2.length ec2, .int .u32 (f2 : Int), .string Xu2] 28 (0, 0))) := Lib.hid (by rw [← hW]; have := heap_alloc_new (w.alloc (.cells #[.slice lo1 l1.length lc1, .int .u64 (a1 : Int), .int .u64 (t1 : Int), .int .i64 k1, .int .u64 (n1 : Int), .slice eo1 es1.length ec1, .int .u32 (f1 : Int), .string Xu1] 28)) (.cells #[.slice lo2 l2.length lc2, .int .u64 (a2 : Int), .int .u64 (t2 : Int), .int .i64 k2, .int .u64 (n2 : Int), .slice eo2 es2.length ec2, .int .u32 (f2 : Int), .string Xu2] 28); simpa using this)
 have HKl := Lib.hid (fun w' (hb : Below w.heap.size w w') => hkeys_same l1 l2 lo1 lo2 lc1 lc2 P Q w' HLENl.out HLIMl.out (HRAl.out.below hb) (HRBl.out.below hb))
 have HKes := Lib.hid (fun w' (hb : Below w.heap.size w w') => hrefex_any es1 HLIMes.out es2 eo1 eo2 ec1 ec2 P Q w' HLENes.out (HRAes.out.below hb) (HRBes.out.below hb))
 have HW := Lib.hid hW
 clear hW
 cases hkl : alike l1 l2 with
 | false =>
  have hll : ¬ l1 = l2 := fun h => by rw [alike_yes h] at hkl; cases hkl
  rw [alike_no (x := ((a1, (t1, (((k1, n1), es1), (l1, f1)))), u1)) (y := ((a2, (t2, (((k2, n2), es2), (l2, f2)))), u2)) (fun h => hll (by simp only [Prod.mk.injEq] at h; exact h.1.2.2.2.1))]
  clear hll  gu1 gu2
  go_enter Tryz.func14, Tryz.ntmps14
  go_wp2_with fail
  rw [HW.out]
  refine (HKl.out W HBW.out).mono ?_; rintro e w4 ⟨rfl, hb4⟩
  rw [hkl]
  have HAw4 := Lib.hid ((hb4.block _ (row_lt HXA.out)).trans HXA.out)
  have HQw4 := Lib.hid ((hb4.block _ (row_lt HXB.out)).trans HXB.out)
  have HBw4 := Lib.hid (below_step HBW.out hb4)
  clear hb4
  obtain ⟨xa0, xa1, xa2, xa3, xa4, xa5, xa6, xa7⟩ := row8 HAw4.out
  obtain ⟨xb0, xb1, xb2, xb3, xb4, xb5, xb6, xb7⟩ := row8 HQw4.out
  go_wp2_with fail
  go_ret
  exact ⟨rfl, HBw4.out⟩
 | true =>
  have hll : l1 = l2 := alike_iff.1 hkl
  by_cases ea : a1 = a2
  case neg =>
   have da : ((a1 : Int) == (a2 : Int)) = false := by rw [beq_eq_false_iff_ne]; omega
   rw [alike_no (x := ((a1, (t1, (((k1, n1), es1), (l1, f1)))), u1)) (y := ((a2, (t2, (((k2, n2), es2), (l2, f2)))), u2)) (fun h => ea (by simp only [Prod.mk.injEq] at h; exact h.1.1))]
   clear hll ea gu1 gu2
   go_enter Tryz.func14, Tryz.ntmps14
   go_wp2_with fail
   rw [HW.out]
   refine (HKl.out W HBW.out).mono ?_; rintro e w4 ⟨rfl, hb4⟩
   rw [hkl]
   have HAw4 := Lib.hid ((hb4.block _ (row_lt HXA.out)).trans HXA.out)
   have HQw4 := Lib.hid ((hb4.block _ (row_lt HXB.out)).trans HXB.out)
   have HBw4 := Lib.hid (below_step HBW.out hb4)
   clear hb4
   obtain ⟨xa0, xa1, xa2, xa3, xa4, xa5, xa6, xa7⟩ := row8 HAw4.out
   obtain ⟨xb0, xb1, xb2, xb3, xb4, xb5, xb6, xb7⟩ := row8 HQw4.out
   go_wp2_with fail
   go_ret
   exact ⟨rfl, HBw4.out⟩
  case pos =>
   have da : ((a1 : Int) == (a2 : Int)) = true := by rw [beq_iff_eq]; omega
   by_cases et : t1 = t2
   case neg =>
    have dt : ((t1 : Int) == (t2 : Int)) = false := by rw [beq_eq_false_iff_ne]; omega
    rw [alike_no (x := ((a1, (t1, (((k1, n1), es1), (l1, f1)))), u1)) (y := ((a2, (t2, (((k2, n2), es2), (l2, f2)))), u2)) (fun h => et (by simp only [Prod.mk.injEq] at h; exact h.1.2.1))]
    clear ea hll et gu1 gu2
    go_enter Tryz.func14, Tryz.ntmps14
    go_wp2_with fail
    rw [HW.out]
    refine (HKl.out W HBW.out).mono ?_; rintro e w4 ⟨rfl, hb4⟩
    rw [hkl]
    have HAw4 := Lib.hid ((hb4.block _ (row_lt HXA.out)).trans HXA.out)
    have HQw4 := Lib.hid ((hb4.block _ (row_lt HXB.out)).trans HXB.out)
    have HBw4 := Lib.hid (below_step HBW.out hb4)
    clear hb4
    obtain ⟨xa0, xa1, xa2, xa3, xa4, xa5, xa6, xa7⟩ := row8 HAw4.out
    obtain ⟨xb0, xb1, xb2, xb3, xb4, xb5, xb6, xb7⟩ := row8 HQw4.out
    go_wp2_with fail
    go_ret
    exact ⟨rfl, HBw4.out⟩
   case pos =>
    have dt : ((t1 : Int) == (t2 : Int)) = true := by rw [beq_iff_eq]; omega
    by_cases ek : k1 = k2
    case neg =>
     have dk : ((k1 : Int) == (k2 : Int)) = false := by rw [beq_eq_false_iff_ne]; omega
     rw [alike_no (x := ((a1, (t1, (((k1, n1), es1), (l1, f1)))), u1)) (y := ((a2, (t2, (((k2, n2), es2), (l2, f2)))), u2)) (fun h => ek (by simp only [Prod.mk.injEq] at h; exact h.1.2.2.1.1.1))]
     clear ea et hll ek gu1 gu2
     go_enter Tryz.func14, Tryz.ntmps14
     go_wp2_with fail
     rw [HW.out]
     refine (HKl.out W HBW.out).mono ?_; rintro e w4 ⟨rfl, hb4⟩
     rw [hkl]
     have HAw4 := Lib.hid ((hb4.block _ (row_lt HXA.out)).trans HXA.out)
     have HQw4 := Lib.hid ((hb4.block _ (row_lt HXB.out)).trans HXB.out)
     have HBw4 := Lib.hid (below_step HBW.out hb4)
     clear hb4
     obtain ⟨xa0, xa1, xa2, xa3, xa4, xa5, xa6, xa7⟩ := row8 HAw4.out
     obtain ⟨xb0, xb1, xb2, xb3, xb4, xb5, xb6, xb7⟩ := row8 HQw4.out
     go_wp2_with fail
     go_ret
     exact ⟨rfl, HBw4.out⟩
    case pos =>
     have dk : ((k1 : Int) == (k2 : Int)) = true := by rw [beq_iff_eq]; omega
     by_cases en : n1 = n2
     case neg =>
      have dn : ((n1 : Int) == (n2 : Int)) = false := by rw [beq_eq_false_iff_ne]; omega
      rw [alike_no (x := ((a1, (t1, (((k1, n1), es1), (l1, f1)))), u1)) (y := ((a2, (t2, (((k2, n2), es2), (l2, f2)))), u2)) (fun h => en (by simp only [Prod.mk.injEq] at h; exact h.1.2.2.1.1.2))]
      clear ea et ek hll en gu1 gu2
      go_enter Tryz.func14, Tryz.ntmps14
      go_wp2_with fail
      rw [HW.out]
      refine (HKl.out W HBW.out).mono ?_; rintro e w4 ⟨rfl, hb4⟩
      rw [hkl]
      have HAw4 := Lib.hid ((hb4.block _ (row_lt HXA.out)).trans HXA.out)
      have HQw4 := Lib.hid ((hb4.block _ (row_lt HXB.out)).trans HXB.out)
      have HBw4 := Lib.hid (below_step HBW.out hb4)
      clear hb4
      obtain ⟨xa0, xa1, xa2, xa3, xa4, xa5, xa6, xa7⟩ := row8 HAw4.out
      obtain ⟨xb0, xb1, xb2, xb3, xb4, xb5, xb6, xb7⟩ := row8 HQw4.out
      go_wp2_with fail
      go_ret
      exact ⟨rfl, HBw4.out⟩
     case pos =>
      have dn : ((n1 : Int) == (n2 : Int)) = true := by rw [beq_iff_eq]; omega
      cases hkes : alike es1 es2 with
      | false =>
       have hles : ¬ es1 = es2 := fun h => by rw [alike_yes h] at hkes; cases hkes
       rw [alike_no (x := ((a1, (t1, (((k1, n1), es1), (l1, f1)))), u1)) (y := ((a2, (t2, (((k2, n2), es2), (l2, f2)))), u2)) (fun h => hles (by simp only [Prod.mk.injEq] at h; exact h.1.2.2.1.2))]
       clear hles ea et ek en hll gu1 gu2
       go_enter Tryz.func14, Tryz.ntmps14
       go_wp2_with fail
       rw [HW.out]
       refine (HKl.out W HBW.out).mono ?_; rintro e w4 ⟨rfl, hb4⟩
       rw [hkl]
       have HAw4 := Lib.hid ((hb4.block _ (row_lt HXA.out)).trans HXA.out)
       have HQw4 := Lib.hid ((hb4.block _ (row_lt HXB.out)).trans HXB.out)
       have HBw4 := Lib.hid (below_step HBW.out hb4)
       clear hb4
       obtain ⟨xa0, xa1, xa2, xa3, xa4, xa5, xa6, xa7⟩ := row8 HAw4.out
       obtain ⟨xb0, xb1, xb2, xb3, xb4, xb5, xb6, xb7⟩ := row8 HQw4.out
       go_wp2_with fail
       clear xa0 xb0 xa1 xb1 xa2 xb2 xa3 xb3 xa4 xb4 xa5 xb5 xa6 xb6 xa7 xb7
       refine (HKes.out w4 HBw4.out).mono ?_; rintro e w5 ⟨rfl, hb4⟩
       rw [hkes]
       have HAw5 := Lib.hid ((hb4.block _ (row_lt HAw4.out)).trans HAw4.out)
       have HQw5 := Lib.hid ((hb4.block _ (row_lt HQw4.out)).trans HQw4.out)
       have HBw5 := Lib.hid (below_step HBw4.out hb4)
       clear hb4
       obtain ⟨xa0, xa1, xa2, xa3, xa4, xa5, xa6, xa7⟩ := row8 HAw5.out
       obtain ⟨xb0, xb1, xb2, xb3, xb4, xb5, xb6, xb7⟩ := row8 HQw5.out
       go_wp2_with fail
       go_ret
       exact ⟨rfl, HBw5.out⟩
      | true =>
       have hles : es1 = es2 := alike_iff.1 hkes
       by_cases ef : f1 = f2
       case neg =>
        have df : ((f1 : Int) == (f2 : Int)) = false := by rw [beq_eq_false_iff_ne]; omega
        rw [alike_no (x := ((a1, (t1, (((k1, n1), es1), (l1, f1)))), u1)) (y := ((a2, (t2, (((k2, n2), es2), (l2, f2)))), u2)) (fun h => ef (by simp only [Prod.mk.injEq] at h; exact h.1.2.2.2.2))]
        clear ea et ek en hll hles ef gu1 gu2
        go_enter Tryz.func14, Tryz.ntmps14
        go_wp2_with fail
        rw [HW.out]
        refine (HKl.out W HBW.out).mono ?_; rintro e w4 ⟨rfl, hb4⟩
        rw [hkl]
        have HAw4 := Lib.hid ((hb4.block _ (row_lt HXA.out)).trans HXA.out)
        have HQw4 := Lib.hid ((hb4.block _ (row_lt HXB.out)).trans HXB.out)
        have HBw4 := Lib.hid (below_step HBW.out hb4)
        clear hb4
        obtain ⟨xa0, xa1, xa2, xa3, xa4, xa5, xa6, xa7⟩ := row8 HAw4.out
        obtain ⟨xb0, xb1, xb2, xb3, xb4, xb5, xb6, xb7⟩ := row8 HQw4.out
        go_wp2_with fail
        clear xa0 xb0 xa1 xb1 xa2 xb2 xa3 xb3 xa4 xb4 xa5 xb5 xa6 xb6 xa7 xb7
        refine (HKes.out w4 HBw4.out).mono ?_; rintro e w5 ⟨rfl, hb4⟩
        rw [hkes]
        have HAw5 := Lib.hid ((hb4.block _ (row_lt HAw4.out)).trans HAw4.out)
        have HQw5 := Lib.hid ((hb4.block _ (row_lt HQw4.out)).trans HQw4.out)
        have HBw5 := Lib.hid (below_step HBw4.out hb4)
        clear hb4
        obtain ⟨xa0, xa1, xa2, xa3, xa4, xa5, xa6, xa7⟩ := row8 HAw5.out
        obtain ⟨xb0, xb1, xb2, xb3, xb4, xb5, xb6, xb7⟩ := row8 HQw5.out
        go_wp2_with fail
        go_ret
        exact ⟨rfl, HBw5.out⟩
       case pos =>
        have df : ((f1 : Int) == (f2 : Int)) = true := by rw [beq_iff_eq]; omega
        by_cases eu : u1 = u2
        case neg =>
         have du := (text_ne gu1 gu2 eu).2
         rw [alike_no (x := ((a1, (t1, (((k1, n1), es1), (l1, f1)))), u1)) (y := ((a2, (t2, (((k2, n2), es2), (l2, f2)))), u2)) (fun h => eu (by simp only [Prod.mk.injEq] at h; exact h.2))]
         clear ea et ek en ef hll hles eu gu1 gu2
         go_enter Tryz.func14, Tryz.ntmps14
         go_wp2_with fail
         rw [HW.out]
         refine (HKl.out W HBW.out).mono ?_; rintro e w4 ⟨rfl, hb4⟩
         rw [hkl]
         have HAw4 := Lib.hid ((hb4.block _ (row_lt HXA.out)).trans HXA.out)
         have HQw4 := Lib.hid ((hb4.block _ (row_lt HXB.out)).trans HXB.out)
         have HBw4 := Lib.hid (below_step HBW.out hb4)
         clear hb4
         obtain ⟨xa0, xa1, xa2, xa3, xa4, xa5, xa6, xa7⟩ := row8 HAw4.out
         obtain ⟨xb0, xb1, xb2, xb3, xb4, xb5, xb6, xb7⟩ := row8 HQw4.out
         go_wp2_with fail
         clear xa0 xb0 xa1 xb1 xa2 xb2 xa3 xb3 xa4 xb4 xa5 xb5 xa6 xb6 xa7 xb7
         refine (HKes.out w4 HBw4.out).mono ?_; rintro e w5 ⟨rfl, hb4⟩
         rw [hkes]
         have HAw5 := Lib.hid ((hb4.block _ (row_lt HAw4.out)).trans HAw4.out)
         have HQw5 := Lib.hid ((hb4.block _ (row_lt HQw4.out)).trans HQw4.out)
         have HBw5 := Lib.hid (below_step HBw4.out hb4)
         clear hb4
         obtain ⟨xa0, xa1, xa2, xa3, xa4, xa5, xa6, xa7⟩ := row8 HAw5.out
         obtain ⟨xb0, xb1, xb2, xb3, xb4, xb5, xb6, xb7⟩ := row8 HQw5.out
         go_wp2_with fail
         go_ret
         exact ⟨rfl, HBw5.out⟩
        case pos =>
         obtain rfl := ba_same gu1 gu2 eu
         rw [alike_yes (x := ((a1, (t1, (((k1, n1), es1), (l1, f1)))), u1)) (y := ((a2, (t2, (((k2, n2), es2), (l2, f2)))), u2)) (by rw [ea, et, ek, en, ef, eu, hll, hles])]
         clear ea et ek en ef eu hll hles gu1 gu2
         go_enter Tryz.func14, Tryz.ntmps14
         go_wp2_with fail
         rw [HW.out]
         refine (HKl.out W HBW.out).mono ?_; rintro e w4 ⟨rfl, hb4⟩
         rw [hkl]
         have HAw4 := Lib.hid ((hb4.block _ (row_lt HXA.out)).trans HXA.out)
         have HQw4 := Lib.hid ((hb4.block _ (row_lt HXB.out)).trans HXB.out)
         have HBw4 := Lib.hid (below_step HBW.out hb4)
         clear hb4
         obtain ⟨xa0, xa1, xa2, xa3, xa4, xa5, xa6, xa7⟩ := row8 HAw4.out
         obtain ⟨xb0, xb1, xb2, xb3, xb4, xb5, xb6, xb7⟩ := row8 HQw4.out
         go_wp2_with fail
         clear xa0 xb0 xa1 xb1 xa2 xb2 xa3 xb3 xa4 xb4 xa5 xb5 xa6 xb6 xa7 xb7
         refine (HKes.out w4 HBw4.out).mono ?_; rintro e w5 ⟨rfl, hb4⟩
         rw [hkes]
         have HAw5 := Lib.hid ((hb4.block _ (row_lt HAw4.out)).trans HAw4.out)
         have HQw5 := Lib.hid ((hb4.block _ (row_lt HQw4.out)).trans HQw4.out)
         have HBw5 := Lib.hid (below_step HBw4.out hb4)
         clear hb4
         obtain ⟨xa0, xa1, xa2, xa3, xa4, xa5, xa6, xa7⟩ := row8 HAw5.out
         obtain ⟨xb0, xb1, xb2, xb3, xb4, xb5, xb6, xb7⟩ := row8 HQw5.out
         go_wp2_with fail
         go_ret
         exact ⟨rfl, HBw5.out⟩
end Go.Proofs.YtjbingoliffjiaaGreatDoor
