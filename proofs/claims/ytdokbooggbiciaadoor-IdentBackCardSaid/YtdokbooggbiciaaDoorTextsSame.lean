/-
  hygref.Texts: two lists of one content.
-/
import Derived.Test.YtdokbooggbiciaaDoorUpd
import Derived.Test.YtdokbooggbiciaaDoorOrd
import Derived.Deep.LoopGhost
namespace Go.Proofs.YtdokbooggbiciaaDoor
open Go.RowKit

def strV (t : List UInt8) : Value := .string ⟨t.toArray⟩
def Strs (w : World) (ao : Option Addr) (l : List (List UInt8)) : Prop :=
  l ≠ [] → ∃ b off, ao = some ⟨b, off, none⟩ ∧ b < w.heap.size ∧ ∀ j (h : j < l.length), w.cell? ⟨b, off + j, none⟩ = some (strV l[j])
theorem Strs.below {w w' : World} {ao : Option Addr} {l : List (List UInt8)} (h : Strs w ao l) (hb : Below w.heap.size w w') : Strs w' ao l := fun hn => by
  obtain ⟨b, off, e, hlt, hc⟩ := h hn
  exact ⟨b, off, e, Nat.lt_of_lt_of_le hlt hb.size, fun j hj => (hb.cell (p := ⟨b, off + j, none⟩) hlt).trans (hc j hj)⟩
theorem Strs.at {w : World} {ao : Option Addr} {l : List (List UInt8)} (h : Strs w ao l) {i : Nat} (hi : i < l.length) : ∃ b off, ao = some ⟨b, off, none⟩ ∧ b < w.heap.size ∧ w.cell? ⟨b, off + i, none⟩ = some (strV l[i]) := by
  obtain ⟨b, off, e, hlt, hc⟩ := h (by intro e; subst e; simp at hi)
  exact ⟨b, off, e, hlt, hc i hi⟩
theorem strs_of_own {w : World} {base : Nat} {e : TypeId} {ao : Option Addr} {cap : Nat} {l : List (List UInt8)} (h : w.ownsRow base e 1 (.slice ao l.length cap) l.length (l.map strV)) : Strs w ao l := fun hn => by
  obtain ⟨g, cap', hv, _, h2, _⟩ := own_some h (List.length_pos_iff.2 hn)
  simp only [Value.slice.injEq] at hv
  obtain ⟨rfl, _, rfl⟩ := hv
  refine ⟨g, 0, rfl, h2, fun j hj => ?_⟩
  rw [Nat.zero_add, h.cellAt j (by omega)]
  simp [List.getElem?_eq_getElem hj]
set_option maxRecDepth 1000000 in
set_option maxHeartbeats 2000000 in
theorem texts_same (ao bo : Option Addr) (cap bcap : Nat) (l : List (List UInt8)) (w : World) (ha : Strs w ao l) (hb : Strs w bo l) (hl : l.length ≤ 1000000000) :
    Calls Tryd.prog 11 #[.slice ao l.length cap, .slice bo l.length bcap] w fun e w' => e = .returned (.bool true) ∧ Below w.heap.size w w' := by
  go_enter Tryd.func11, Tryd.ntmps11
  go_wp2
  go_loopg [5] l.length (fun k i wr => ∃ j : Nat, j + k = l.length ∧ i = .int .i64 j ∧ Below w.heap.size w wr)
  case atStart => exact ⟨0, by omega, rfl, Below.refl _ _⟩
  case round =>
    obtain ⟨j, hj, rfl, hbr⟩ := hrel
    have HB := Lib.hid hbr
    have HJ := Lib.hid hj
    have HA := Lib.hid (ha.below hbr)
    have HBB := Lib.hid (hb.below hbr)
    have hjl : j ≤ l.length := by omega
    clear hj hbr
    by_cases hlt : j < l.length
    · obtain ⟨b, off, rfl, hbl, hc⟩ := HA.out.at hlt
      obtain ⟨b2, off2, rfl, hbl2, hc2⟩ := HBB.out.at hlt
      obtain ⟨X, HX⟩ : ∃ X : ByteArray, Hid (strV l[j] = .string X) := ⟨_, Lib.hid rfl⟩
      rw [HX.out] at hc hc2
      have hI : Below wr.heap.size wr wr.drew := (Below.refl _ _).drew
      have hne : Nonempty { w' : World // Below wr.heap.size wr w' } := ⟨⟨_, hI⟩⟩
      have hc3 : ∀ t : { w' : World // Below wr.heap.size wr w' }, t.1.cell? ⟨b, off + j, none⟩ = some (.string X) := fun t => (t.2.cell (p := ⟨b, off + j, none⟩) hbl).trans hc
      have hc4 : ∀ t : { w' : World // Below wr.heap.size wr w' }, t.1.cell? ⟨b2, off2 + j, none⟩ = some (.string X) := fun t => (t.2.cell (p := ⟨b2, off2 + j, none⟩) hbl2).trans hc2
      go_wp2_with fail
      refine wp_region_seq (S := fun w' => Below wr.heap.size wr w') [(0, true), (1, true), (2, true), (3, true), (4, true), (5, true), (6, true), (7, true), (8, true)] (by kernel_rfl) (by kernel_rfl) (by kernel_rfl) (by kernel_rfl) hI ?_
      iterate 9 (refine seq_take _ rfl (fun K hK => ?_); go_simp; refine hK _ ?_; clear hK K)
      refine seq_done ?_
      clear hc3 hc4
      go_wp2_with fail
      have hj := HJ.out
      go_roundg (gk - 1)
      case measure => omega
      case rel => exact ⟨j + 1, by omega, by simp, HB.out.trans (hI.mono HB.out.size)⟩
    · go_wp2_with fail
      go_ret
      exact ⟨rfl, HB.out⟩
end Go.Proofs.YtdokbooggbiciaaDoor
