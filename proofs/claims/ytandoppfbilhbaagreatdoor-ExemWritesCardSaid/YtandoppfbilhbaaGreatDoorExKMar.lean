/-
  exem.Marshal, May, Size of any exemplar.
-/
import Derived.Test.YtandoppfbilhbaaGreatDoorExMar
import Derived.Test.YtandoppfbilhbaaGreatDoorValMar
namespace Go.Proofs.YtandoppfbilhbaaGreatDoor
open Go.RowKit
theorem ex_marshal (x : Ex) (cs : List Value) (Q : Nat → Prop) (d : Int) (w : World) (hf : ex_fit x) (hr : exCel.R w Q x cs) (hd : -9223372036854775808 ≤ d ∧ d ≤ 9223372036854775807) :
    Calls Tryz.prog 21 #[.agg cs.toArray, .int .i64 d] w (MarPost (ex_may d x) (ex_out x) w) := ex_marshal_if x (Lib.hid fun _ => kmar_any) cs Q d w hf hr hd
set_option maxRecDepth 1000000 in
set_option maxHeartbeats 8000000 in
theorem ex_mayc (x : Ex) (cs : List Value) (Q : Nat → Prop) (d : Int) (w : World) (hf : ex_fit x) (hr : exCel.R w Q x cs) (hd : -9223372036854775808 ≤ d ∧ d ≤ 9223372036854775807) :
 Calls Tryz.prog 22 #[.agg cs.toArray, .int .i64 d] w fun e w' => e = .returned (.bool (ex_may d x)) ∧ Below w.heap.size w w' := by
 have HM := Lib.hid (fun w' (hb : Below w.heap.size w w') => ex_marshal x cs Q d w' hf (exCel.upd (Upd.of_new (S := fun _ => False) hb) (fun _ _ h => h) (fun _ h => h) hr) hd)
 obtain ⟨⟨t, ⟨⟨⟨k, n⟩, ⟨a, b⟩⟩, l⟩⟩, u⟩ := x
 obtain ⟨lo, lc, rfl, _⟩ := hr
 obtain ⟨g, hg⟩ : ∃ g, ex_may d ((t, (((k, n), (a, b)), l)), u) = g := ⟨_, rfl⟩
 rw [hg] at HM ⊢
 dsimp only [strV] at HM ⊢
 obtain ⟨Xa, hXa⟩ : ∃ U : ByteArray, (⟨a.toArray⟩ : ByteArray) = U := ⟨_, rfl⟩
 obtain ⟨Xb, hXb⟩ : ∃ U : ByteArray, (⟨b.toArray⟩ : ByteArray) = U := ⟨_, rfl⟩
 obtain ⟨Xu, hXu⟩ : ∃ U : ByteArray, (⟨u.toArray⟩ : ByteArray) = U := ⟨_, rfl⟩
 rw [hXa, hXb, hXu] at HM ⊢
 clear hXa hXb hXu
 obtain ⟨W, hW⟩ : ∃ W, w.alloc (.cells #[.slice lo l.length lc, .int .u64 (t : Int), .int .i64 k, .int .u64 (n : Int), .string Xa, .string Xb, .string Xu] 26) = W := ⟨_, rfl⟩
 have HB0 : Hid (Below w.heap.size w W) := Lib.hid (by rw [← hW]; exact below_new _ _)
 have HW := Lib.hid hW
 clear hW hf hg hd
 go_enter Tryz.func22, Tryz.ntmps22
 go_wp2_with fail
 rw [HW.out]
 refine (HM.out W HB0.out).mono ?_; rintro e w1 ⟨hb, hcase⟩
 have HB1 := Lib.hid (below_step HB0.out hb)
 clear hb
 cases g with
 | true =>
  rw [if_pos rfl] at hcase
  subst hcase
  go_wp2_with fail
  go_ret
  exact ⟨rfl, HB1.out⟩
 | false =>
  rw [if_neg (by simp)] at hcase
  obtain ⟨v, rfl, hec⟩ := hcase
  obtain ⟨T', y, rfl⟩ := hec.iface
  clear hec
  go_wp2_with fail
  go_ret
  exact ⟨rfl, HB1.out⟩
set_option maxRecDepth 1000000 in
set_option maxHeartbeats 8000000 in
theorem ex_size (x : Ex) (cs : List Value) (Q : Nat → Prop) (w : World) (hf : ex_fit x) (hr : exCel.R w Q x cs) (hm : ex_may 262144 x = true) :
 Calls Tryz.prog 24 #[.agg cs.toArray] w fun e w' => e = .returned (.int .i64 ((ex_out x).length : Int)) ∧ Below w.heap.size w w' := by
 have HL := Lib.hid (ex_olen hf)
 have HM := Lib.hid (fun w' (hb : Below w.heap.size w w') => ex_marshal x cs Q 262144 w' hf (exCel.upd (Upd.of_new (S := fun _ => False) hb) (fun _ _ h => h) (fun _ h => h) hr) (by omega))
 rw [hm] at HM
 obtain ⟨o, ho⟩ : ∃ o, ex_out x = o := ⟨_, rfl⟩
 rw [ho] at HM HL ⊢
 obtain ⟨⟨t, ⟨⟨⟨k, n⟩, ⟨a, b⟩⟩, l⟩⟩, u⟩ := x
 obtain ⟨lo, lc, rfl, _⟩ := hr
 dsimp only [strV] at HM ⊢
 obtain ⟨Xa, hXa⟩ : ∃ U : ByteArray, (⟨a.toArray⟩ : ByteArray) = U := ⟨_, rfl⟩
 obtain ⟨Xb, hXb⟩ : ∃ U : ByteArray, (⟨b.toArray⟩ : ByteArray) = U := ⟨_, rfl⟩
 obtain ⟨Xu, hXu⟩ : ∃ U : ByteArray, (⟨u.toArray⟩ : ByteArray) = U := ⟨_, rfl⟩
 rw [hXa, hXb, hXu] at HM ⊢
 clear hXa hXb hXu hf hm ho
 obtain ⟨W, hW⟩ : ∃ W, w.alloc (.cells #[.slice lo l.length lc, .int .u64 (t : Int), .int .i64 k, .int .u64 (n : Int), .string Xa, .string Xb, .string Xu] 26) = W := ⟨_, rfl⟩
 have HB0 : Hid (Below w.heap.size w W) := Lib.hid (by rw [← hW]; exact below_new _ _)
 have HW := Lib.hid hW
 clear hW
 go_enter Tryz.func24, Tryz.ntmps24
 go_wp2_with fail
 rw [HW.out]
 refine (HM.out W HB0.out).mono ?_; rintro e w1 ⟨hb, hcase⟩
 have HB1 := Lib.hid (below_step HB0.out hb)
 clear hb
 rw [if_pos rfl] at hcase
 subst hcase
 obtain ⟨P, hP⟩ : ∃ P : ByteArray, (⟨o.toArray⟩ : ByteArray) = P := ⟨_, rfl⟩
 have hz : P.size = o.length := by rw [← hP]; simp [ByteArray.size]
 rw [hP]
 have HZ := Lib.hid hz
 clear hP hz
 go_wp2_with fail
 go_ret
 exact ⟨by rw [HZ.out]; rfl, HB1.out⟩
end Go.Proofs.YtandoppfbilhbaaGreatDoor
