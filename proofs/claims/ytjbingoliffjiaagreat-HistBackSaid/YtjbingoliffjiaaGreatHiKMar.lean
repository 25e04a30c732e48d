/-
  hist.Marshal, May, Size of any point.
-/
import Derived.Test.YtjbingoliffjiaaGreatHiMar
import Derived.Test.YtjbingoliffjiaaGreatExKMar
set_option maxRecDepth 1000000
set_option maxHeartbeats 16000000
namespace Go.Proofs.YtjbingoliffjiaaGreat
open Go.RowKit
theorem hi_marshal (x : Hi) (cs : List Value) (Q : Nat → Prop) (d : Int) (w : World) (hf : hi_fit x) (hr : hiCel.R w Q x cs) (hd : -9223372036854775808 ≤ d ∧ d ≤ 9223372036854775807) :
    Calls Tryz.prog 11 #[.agg cs.toArray, .int .i64 d] w (MarPost (hi_may d x) (hi_out x) w) := hi_marshal_if x (Lib.hid fun _ => kmar_any) (Lib.hid fun _ => ex_marshal) cs Q d w hf hr hd
theorem hi_mayc (x : Hi) (cs : List Value) (Q : Nat → Prop) (d : Int) (w : World) (hf : hi_fit x) (hr : hiCel.R w Q x cs) (hd : -9223372036854775808 ≤ d ∧ d ≤ 9223372036854775807) :
 Calls Tryz.prog 13 #[.agg cs.toArray, .int .i64 d] w fun e w' => e = .returned (.bool (hi_may d x)) ∧ Below w.heap.size w w' := by
 have HM := Lib.hid (fun w' (hb : Below w.heap.size w w') => hi_marshal x cs Q d w' hf (hiCel.upd (Upd.of_new (S := fun _ => False) hb) (fun _ _ h => h) (fun _ h => h) hr) hd)
 obtain ⟨⟨a, ⟨t, ⟨k, ⟨⟨ph, pn⟩, ⟨nc, ⟨nb, ⟨es, ⟨l, ⟨f, ⟨⟨mh, mn⟩, ⟨gh, gn⟩⟩⟩⟩⟩⟩⟩⟩⟩⟩⟩, u⟩ := x
 obtain ⟨lo, lc, nco, ncc, nbo, nbc, eo, ec, rfl, _, _, _, _⟩ := hr
 obtain ⟨g, hg⟩ : ∃ g, hi_may d ((a, (t, (k, ((ph, pn), (nc, (nb, (es, (l, (f, ((mh, mn), (gh, gn))))))))))), u) = g := ⟨_, rfl⟩
 rw [hg] at HM ⊢
 dsimp only [strV] at HM ⊢
 obtain ⟨Xu, hXu⟩ : ∃ U : ByteArray, (⟨u.toArray⟩ : ByteArray) = U := ⟨_, rfl⟩
 rw [hXu] at HM ⊢
 clear hXu
 obtain ⟨W, hW⟩ : ∃ W, w.alloc (.cells #[.slice lo l.length lc, .int .u64 (a : Int), .int .u64 (t : Int), .int .u64 (k : Int), .bool ph, .int .u64 (pn : Int), .bool mh, .int .u64 (mn : Int), .bool gh, .int .u64 (gn : Int), .slice nco nc.length ncc, .slice nbo nb.length nbc, .slice eo es.length ec, .int .u32 (f : Int), .string Xu] 30) = W := ⟨_, rfl⟩
 have HB0 : Hid (Below w.heap.size w W) := Lib.hid (by rw [← hW]; exact below_new _ _)
 have HW := Lib.hid hW
 clear hW hf hg hd
 go_enter Tryz.func13, Tryz.ntmps13
 go_wp2_with fail
 rw [HW.out]
 refine (HM.out W HB0.out).mono ?_; rintro e w1 ⟨hb, hcase⟩
 have HB1 := Lib.hid (below_step HB0.out hb)
 clear hb
 cases g with
 | true =>
  rw [if_pos rfl] at hcase
  subst hcase
  go_wp2_with fail
  go_ret
  exact ⟨rfl, HB1.out⟩
 | false =>
  rw [if_neg (by simp)] at hcase
  obtain ⟨v, rfl, hec⟩ := hcase
  obtain ⟨T', y, rfl⟩ := hec.iface
  clear hec
  go_wp2_with fail
  go_ret
  exact ⟨rfl, HB1.out⟩
end Go.Proofs.YtjbingoliffjiaaGreat
