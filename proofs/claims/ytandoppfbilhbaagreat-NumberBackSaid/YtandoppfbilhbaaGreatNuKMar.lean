/-
  number.Marshal, May, Size of any point.
-/
import Derived.Test.YtandoppfbilhbaaGreatNuMar
import Derived.Test.YtandoppfbilhbaaGreatExKMar
namespace Go.Proofs.YtandoppfbilhbaaGreat
open Go.RowKit

theorem nu_marshal (x : Nu) (cs : List Value) (Q : Nat → Prop) (d : Int) (w : World) (hf : nu_fit x) (hr : nuCel.R w Q x cs) (hd : -9223372036854775808 ≤ d ∧ d ≤ 9223372036854775807) :
    Calls Tryz.prog 11 #[.agg cs.toArray, .int .i64 d] w (MarPost (nu_may d x) (nu_out x) w) := nu_marshal_if x (Lib.hid fun _ => kmar_any) (Lib.hid fun _ => ex_marshal) cs Q d w hf hr hd
set_option maxRecDepth 1000000 in
set_option maxHeartbeats 8000000 in
theorem nu_mayc (x : Nu) (cs : List Value) (Q : Nat → Prop) (d : Int) (w : World) (hf : nu_fit x) (hr : nuCel.R w Q x cs) (hd : -9223372036854775808 ≤ d ∧ d ≤ 9223372036854775807) :
 Calls Tryz.prog 13 #[.agg cs.toArray, .int .i64 d] w fun e w' => e = .returned (.bool (nu_may d x)) ∧ Below w.heap.size w w' := by
 have HM := Lib.hid (fun w' (hb : Below w.heap.size w w') => nu_marshal x cs Q d w' hf (nuCel.upd (Upd.of_new (S := fun _ => False) hb) (fun _ _ h => h) (fun _ h => h) hr) hd)
 obtain ⟨⟨a, ⟨t, ⟨⟨⟨k, n⟩, es⟩, ⟨l, f⟩⟩⟩⟩, u⟩ := x
 obtain ⟨lo, lc, eo, ec, rfl, _, _⟩ := hr
 obtain ⟨g, hg⟩ : ∃ g, nu_may d ((a, (t, (((k, n), es), (l, f)))), u) = g := ⟨_, rfl⟩
 rw [hg] at HM ⊢
 dsimp only [strV] at HM ⊢
 obtain ⟨Xu, hXu⟩ : ∃ U : ByteArray, (⟨u.toArray⟩ : ByteArray) = U := ⟨_, rfl⟩
 rw [hXu] at HM ⊢
 clear hXu
 obtain ⟨W, hW⟩ : ∃ W, w.alloc (.cells #[.slice lo l.length lc, .int .u64 (a : Int), .int .u64 (t : Int), .int .i64 k, .int .u64 (n : Int), .slice eo es.length ec, .int .u32 (f : Int), .string Xu] 27) = W := ⟨_, rfl⟩
 have HB0 : Hid (Below w.heap.size w W) := Lib.hid (by rw [← hW]; exact below_new _ _)
 have HW := Lib.hid hW
 clear hW hf hg hd
 go_enter Tryz.func13, Tryz.ntmps13
 go_wp2_with fail
 rw [HW.out]
 refine (HM.out W HB0.out).mono ?_; rintro e w1 ⟨hb, hcase⟩
 have HB1 := Lib.hid (below_step HB0.out hb)
 clear hb
 cases g with
 | true =>
  rw [if_pos rfl] at hcase
  subst hcase
  go_wp2_with fail
  go_ret
  exact ⟨rfl, HB1.out⟩
 | false =>
  rw [if_neg (by simp)] at hcase
  obtain ⟨v, rfl, hec⟩ := hcase
  obtain ⟨T', y, rfl⟩ := hec.iface
  clear hec
  go_wp2_with fail
  go_ret
  exact ⟨rfl, HB1.out⟩
end Go.Proofs.YtandoppfbilhbaaGreat

