/-
  summ.Marshal, May, Size of any point.
-/
import Derived.Test.YthpngihcjbmmkaaGreatDoorSuMar
import Derived.Test.YthpngihcjbmmkaaGreatDoorValMar
namespace Go.Proofs.YthpngihcjbmmkaaGreatDoor
open Go.RowKit

theorem su_marshal (x : Su) (cs : List Value) (Q : Nat → Prop) (d : Int) (w : World) (hf : su_fit x) (hr : suCel.R w Q x cs) (hd : -9223372036854775808 ≤ d ∧ d ≤ 9223372036854775807) :
    Calls Tryz.prog 33 #[.agg cs.toArray, .int .i64 d] w (MarPost (su_may d x) (su_out x) w) := su_marshal_if x (Lib.hid fun _ => kmar_any) cs Q d w hf hr hd
set_option maxRecDepth 1000000 in
set_option maxHeartbeats 8000000 in
theorem su_size_if (x : Su) (hMl : Hid (x.1.2.2.2.2.2.1 ≠ [] → KMar)) (cs : List Value) (Q : Nat → Prop) (w : World) (hf : su_fit x) (hr : suCel.R w Q x cs) (hm : su_may 262144 x = true) :
 Calls Tryz.prog 36 #[.agg cs.toArray] w fun e w' => e = .returned (.int .i64 ((su_out x).length : Int)) ∧ Below w.heap.size w w' := by
 have HL := Lib.hid (su_olen hf)
 have HM := Lib.hid (fun w' (hb : Below w.heap.size w w') => su_marshal_if x hMl cs Q 262144 w' hf (suCel.upd (Upd.of_new (S := fun _ => False) hb) (fun _ _ h => h) (fun _ h => h) hr) (by omega))
 rw [hm] at HM
 obtain ⟨o, ho⟩ : ∃ o, su_out x = o := ⟨_, rfl⟩
 rw [ho] at HM HL ⊢
 obtain ⟨⟨a, ⟨t, ⟨k, ⟨n, ⟨qs, ⟨l, f⟩⟩⟩⟩⟩⟩, u⟩ := x
 obtain ⟨lo, lc, qo, qc, rfl, _, _⟩ := hr
 dsimp only [strV] at HM ⊢
 obtain ⟨Xu, hXu⟩ : ∃ U : ByteArray, (⟨u.toArray⟩ : ByteArray) = U := ⟨_, rfl⟩
 rw [hXu] at HM ⊢
 clear hXu hf hm ho
 obtain ⟨W, hW⟩ : ∃ W, w.alloc (.cells #[.slice lo l.length lc, .int .u64 (a : Int), .int .u64 (t : Int), .int .u64 (k : Int), .int .u64 (n : Int), .slice qo qs.length qc, .int .u32 (f : Int), .string Xu] 52) = W := ⟨_, rfl⟩
 have HB0 : Hid (Below w.heap.size w W) := Lib.hid (by rw [← hW]; exact below_new _ _)
 have HW := Lib.hid hW
 clear hW
 go_enter Tryz.func36, Tryz.ntmps36
 go_wp2_with fail
 rw [HW.out]
 refine (HM.out W HB0.out).mono ?_; rintro e w1 ⟨hb, hcase⟩
 have HB1 := Lib.hid (below_step HB0.out hb)
 clear hb
 rw [if_pos rfl] at hcase
 subst hcase
 obtain ⟨P, hP⟩ : ∃ P : ByteArray, (⟨o.toArray⟩ : ByteArray) = P := ⟨_, rfl⟩
 have hz : P.size = o.length := by rw [← hP]; simp [ByteArray.size]
 rw [hP]
 have HZ := Lib.hid hz
 clear hP hz
 go_wp2_with fail
 go_ret
 exact ⟨by rw [HZ.out]; rfl, HB1.out⟩
theorem su_size (x : Su) (cs : List Value) (Q : Nat → Prop) (w : World) (hf : su_fit x) (hr : suCel.R w Q x cs) (hm : su_may 262144 x = true) :
 Calls Tryz.prog 36 #[.agg cs.toArray] w fun e w' => e = .returned (.int .i64 ((su_out x).length : Int)) ∧ Below w.heap.size w w' := su_size_if x (Lib.hid fun _ => kmar_any) cs Q w hf hr hm
set_option maxRecDepth 1000000 in
set_option maxHeartbeats 8000000 in
theorem su_mayc (x : Su) (cs : List Value) (Q : Nat → Prop) (d : Int) (w : World) (hf : su_fit x) (hr : suCel.R w Q x cs) (hd : -9223372036854775808 ≤ d ∧ d ≤ 9223372036854775807) :
 Calls Tryz.prog 34 #[.agg cs.toArray, .int .i64 d] w fun e w' => e = .returned (.bool (su_may d x)) ∧ Below w.heap.size w w' := by
 have HM := Lib.hid (fun w' (hb : Below w.heap.size w w') => su_marshal x cs Q d w' hf (suCel.upd (Upd.of_new (S := fun _ => False) hb) (fun _ _ h => h) (fun _ h => h) hr) hd)
 obtain ⟨⟨a, ⟨t, ⟨k, ⟨n, ⟨qs, ⟨l, f⟩⟩⟩⟩⟩⟩, u⟩ := x
 obtain ⟨lo, lc, qo, qc, rfl, _, _⟩ := hr
 obtain ⟨g, hg⟩ : ∃ g, su_may d ((a, (t, (k, (n, (qs, (l, f)))))), u) = g := ⟨_, rfl⟩
 rw [hg] at HM ⊢
 dsimp only [strV] at HM ⊢
 obtain ⟨Xu, hXu⟩ : ∃ U : ByteArray, (⟨u.toArray⟩ : ByteArray) = U := ⟨_, rfl⟩
 rw [hXu] at HM ⊢
 clear hXu
 obtain ⟨W, hW⟩ : ∃ W, w.alloc (.cells #[.slice lo l.length lc, .int .u64 (a : Int), .int .u64 (t : Int), .int .u64 (k : Int), .int .u64 (n : Int), .slice qo qs.length qc, .int .u32 (f : Int), .string Xu] 52) = W := ⟨_, rfl⟩
 have HB0 : Hid (Below w.heap.size w W) := Lib.hid (by rw [← hW]; exact below_new _ _)
 have HW := Lib.hid hW
 clear hW hf hg hd
 go_enter Tryz.func34, Tryz.ntmps34
 go_wp2_with fail
 rw [HW.out]
 refine (HM.out W HB0.out).mono ?_; rintro e w1 ⟨hb, hcase⟩
 have HB1 := Lib.hid (below_step HB0.out hb)
 clear hb
 cases g with
 | true =>
  rw [if_pos rfl] at hcase
  subst hcase
  go_wp2_with fail
  go_ret
  exact ⟨rfl, HB1.out⟩
 | false =>
  rw [if_neg (by simp)] at hcase
  obtain ⟨v, rfl, hec⟩ := hcase
  obtain ⟨T', y, rfl⟩ := hec.iface
  clear hec
  go_wp2_with fail
  go_ret
  exact ⟨rfl, HB1.out⟩
end Go.Proofs.YthpngihcjbmmkaaGreatDoor
