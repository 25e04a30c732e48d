/-
  hygref.Nums: two lists of one content.
-/
import Derived.Test.YtdokbooggbiciaaInts
import Derived.Test.YtdokbooggbiciaaUpd
import Derived.Deep.LoopGhost
import Derived.Deep.QuietTactic
namespace Go.Proofs.Ytdokbooggbiciaa
open Go.RowKit

theorem nats_of_own {w : World} {base : Nat} {e : TypeId} {ao : Option Addr} {cap : Nat} {l : List Nat} (h : w.ownsRow base e 1 (.slice ao l.length cap) l.length (l.map fun n : Nat => .int .u64 (n : Int))) : Nats .u64 w ao l := fun hn => by
  obtain ⟨g, cap', hv, _, h2, _⟩ := own_some h (List.length_pos_iff.2 hn)
  simp only [Value.slice.injEq] at hv
  obtain ⟨rfl, _, rfl⟩ := hv
  refine ⟨g, 0, rfl, h2, fun j hj => ?_⟩
  rw [Nat.zero_add, h.cellAt j (by omega)]
  simp [List.getElem?_eq_getElem hj]
set_option maxRecDepth 1000000 in
set_option maxHeartbeats 1000000 in
theorem nums_same (ao bo : Option Addr) (cap bcap : Nat) (l : List Nat) (w : World) (ha : Nats .u64 w ao l) (hb : Nats .u64 w bo l) (hl : l.length ≤ 1000000000) :
    Calls Try.prog 20 #[.slice ao l.length cap, .slice bo l.length bcap] w fun e w' => e = .returned (.bool true) ∧ Below w.heap.size w w' := by
  go_enter Try.func20, Try.ntmps20
  go_wp2
  go_loopg [5] l.length (fun k i wr => ∃ j : Nat, j + k = l.length ∧ i = .int .i64 j ∧ Below w.heap.size w wr)
  case atStart => exact ⟨0, by omega, rfl, Below.refl _ _⟩
  case round =>
    obtain ⟨j, hj, rfl, hbr⟩ := hrel
    by_cases hlt : j < l.length
    · obtain ⟨b, off, n, HN, rfl, hbl, hc⟩ := (ha.below hbr).at hlt
      obtain ⟨b2, off2, n2, HN2, rfl, hbl2, hc2⟩ := (hb.below hbr).at hlt
      obtain rfl : n2 = n := by rw [HN.out, HN2.out]
      have hi1 : (j : Int) < (l.length : Int) := by omega
      have hi0 : (0 : Int) ≤ (j : Int) := by omega
      have HJ := Lib.hid hj
      clear hj
      go_wp2_with fail
      go_quiet (fail)
      go_wp2
      have hj := HJ.out
      go_roundg (gk - 1)
      case measure => omega
      case rel => exact ⟨j + 1, by omega, by simp, hbr.trans ⟨rfl, rfl, rfl, Nat.le_refl _, fun _ _ => rfl⟩⟩
    · go_wp2
      go_ret
      exact ⟨rfl, hbr⟩
end Go.Proofs.Ytdokbooggbiciaa
