/-
  hygref.Ints over two slices that hold the same numbers.
-/
import Derived.Test.YtlbfeknmbgjknaaDoorInts
import Derived.BigQuiet
import Derived.Deep.QuietTactic
import Derived.Deep.LoopGhost
import Derived.Laws.AppendOwnNone
namespace Go.Proofs.YtlbfeknmbgjknaaDoor
open Go.RowKit

/-- v is a slice that reads as the numbers l -/
def SlI (k : IntKind) (w : World) (v : Value) (l : List Int) : Prop := ∃ ao cap, v = .slice ao l.length cap ∧ Ints k w ao l
theorem SlI.below {k : IntKind} {w w' : World} {v : Value} {l : List Int} (h : SlI k w v l) (hb : Below w.heap.size w w') : SlI k w' v l := by
  obtain ⟨ao, cap, e, hi⟩ := h
  exact ⟨ao, cap, e, hi.below hb⟩
theorem slI_of_owns {k : IntKind} {w : World} {base : Nat} {e : TypeId} {v : Value} {l : List Int} (h : w.ownsRow base e 1 v l.length (l.map (Value.int k))) : SlI k w v l := by
  rcases h.2 with ⟨rfl, h0⟩ | ⟨g, cap, cur, rfl, hb, hgg, _⟩
  · obtain rfl : l = [] := List.length_eq_zero_iff.1 h0
    exact ⟨none, 0, rfl, fun h => absurd rfl h⟩
  · refine ⟨_, cap, rfl, fun _ => ⟨g, 0, rfl, (Array.getElem?_eq_some_iff.1 hgg).1, fun j hj => ?_⟩⟩
    rw [Nat.zero_add, h.cellAt j (by simpa using hj)]
    simp [List.getElem?_eq_getElem hj]

theorem slI_one {k : IntKind} (w : World) (n : Int) (T : TypeId) (c : Nat) : SlI k (w.alloc (.cells #[.int k n] T)) (.slice (some ⟨w.heap.size, 0, none⟩) 1 c) [n] := by
  refine ⟨_, c, rfl, fun _ => ⟨w.heap.size, 0, rfl, by simp, fun j hj => ?_⟩⟩
  obtain rfl : j = 0 := by simp at hj; omega
  rw [Nat.zero_add, World.cell?_alloc_at _ _ _ _ rfl]; rfl

/-- 'append([]int{n}, u...)' -/
theorem wpList_app_from {P : Program} {w : World} {ops : Array Oper} {rest : List Oper} {o : Oper} {a : Act} {Q : Exit → Act → World → Prop} (hgd : o.guard = none) (s x : Operand) (t : TypeId)
    (ho : o.op = .call { callee := .builtin .append, args := #[s, x], argTypes := #[t, t] })
    {base : Nat} {e : TypeId} {z : Value} {bytes : Nat} {k : IntKind} (he : Elem P t e z 1 bytes)
    {v : Value} {n : Nat} {xs : List Value} (hown : w.ownsRow base e 1 v n xs) (hs : a.eval s = v)
    {u : Value} {l : List Int} (hu : SlI k w u l) (hnil : l = [] → u = .slice none 0 0) (hx : a.eval x = u)
    (h63 : n + l.length ≤ maxLen) (hbytes : (n + l.length) * bytes ≤ 140737488355328) (hbase : base ≤ w.heap.size)
    (h : ∀ v' w', w'.ownsRow base e 1 v' (n + l.length) (xs ++ l.map (Value.int k)) → w.grownBy w' v.ownBlock → wpList P ops Q rest (a.put o.dst v') w') : wpList P ops Q (o :: rest) a w := by
  obtain ⟨ht, hi0, hzs⟩ := he
  obtain ⟨i, hi, hz, hsize, hby⟩ := info_parts hi0
  by_cases hl : l = []
  · subst hl
    refine wpList_append_own_none hgd s x t ho base e i 1 ht hi v n xs hs hown (by rw [hx]; exact hnil rfl) ?_
    exact h v w (by simpa using hown) ⟨rfl, rfl, rfl, Nat.le_refl _, fun _ _ _ => rfl⟩
  · obtain ⟨ao, cap, hue, hint⟩ := hu
    obtain ⟨b, off, rfl, _, hc⟩ := hint hl
    refine wpList_append_own w hgd s x t ho base e i z 1 bytes ht hi hz hsize hby hzs (by decide) v n xs hs hown ⟨b, off, none⟩ l.length cap (l.map (Value.int k)) (by rw [hx, hue]) (by simp) ?_ ?_ h63 hbytes hbase fun v' w' h2 h3 _ => h v' w' h2 h3
    · intro j y hj
      have hj' : j < l.length := by
        have := (List.getElem?_eq_some_iff.1 hj).1
        simpa using this
      have hadd : (⟨b, off, none⟩ : Addr).add j = ⟨b, off + j, none⟩ := by unfold Addr.add; split <;> simp_all
      rw [hadd, hc j hj']
      simpa [List.getElem?_eq_getElem hj'] using hj
    · intro y hy
      obtain ⟨q, _, rfl⟩ := List.mem_map.1 hy
      rfl
/-- a literal slice of one number owns it -/
theorem owns_one (w : World) (u : Value) (e : TypeId) (base : Nat) (hb : base ≤ w.heap.size) : (w.alloc (.cells #[u] e)).ownsRow base e 1 (.slice (some ⟨w.heap.size, 0, none⟩) 1 1) 1 [u] :=
  ⟨rfl, .inr ⟨w.heap.size, 1, #[u], rfl, hb, heap_alloc_new w _, Nat.le_refl _, by simp [maxLen], rfl, rfl⟩⟩

set_option maxRecDepth 1000000 in
set_option maxHeartbeats 1000000 in
theorem ints_same (va vb : Value) (l : List Int) (w : World) (ha : SlI .i64 w va l) (hb : SlI .i64 w vb l) (hl : l.length ≤ 9223372036854775807) :
    Calls Tryd.prog 20 #[va, vb] w fun e w' => e = .returned (.bool true) ∧ Below w.heap.size w w' := by
  obtain ⟨ao, cap, rfl, ha⟩ := ha
  obtain ⟨bo, bcap, rfl, hb⟩ := hb
  go_enter Tryd.func20, Tryd.ntmps20
  go_wp2
  go_loopg [5] l.length (fun k i wr => ∃ j : Nat, j + k = l.length ∧ i = .int .i64 j ∧ Below w.heap.size w wr)
  case atStart => exact ⟨0, by omega, rfl, Below.refl _ _⟩
  case round =>
    obtain ⟨j, hj, rfl, hbr⟩ := hrel
    by_cases hlt : j < l.length
    · obtain ⟨b, off, rfl, hbl, hc⟩ := (ha.below hbr).at hlt
      obtain ⟨b2, off2, rfl, hbl2, hc2⟩ := (hb.below hbr).at hlt
      obtain ⟨n, HN⟩ : ∃ n, Hid (n = l[j]) := ⟨_, Lib.hid rfl⟩
      rw [← HN.out] at hc hc2
      have hi1 : (j : Int) < (l.length : Int) := by omega
      have hi0 : (0 : Int) ≤ (j : Int) := by omega
      have HJ := Lib.hid hj
      clear hj
      go_wp2_with fail
      go_quiet (fail)
      go_wp2
      have hj := HJ.out
      go_roundg (gk - 1)
      case measure => omega
      case rel => exact ⟨j + 1, by omega, by simp, hbr.trans ⟨rfl, rfl, rfl, Nat.le_refl _, fun _ _ => rfl⟩⟩
    · go_wp2
      go_ret
      exact ⟨rfl, hbr⟩
end Go.Proofs.YtlbfeknmbgjknaaDoor
