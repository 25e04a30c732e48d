/-
  hygref.Nums: two lists of one content.
-/
/-
  A row of the call's own, to which a slice of numbers is appended.
-/
import Derived.Test.YteknippgiljgeaaGreatDoorInts
import Derived.Test.YteknippgiljgeaaGreatDoorUpd
import Derived.Deep.LoopGhost
import Derived.Deep.QuietTactic
import Derived.Laws.AppendOwnNone
namespace Go.Proofs.YteknippgiljgeaaGreatDoor
open Go.RowKit

theorem nats_of_own {w : World} {base : Nat} {e : TypeId} {ao : Option Addr} {cap : Nat} {l : List Nat} (h : w.ownsRow base e 1 (.slice ao l.length cap) l.length (l.map fun n : Nat => .int .u64 (n : Int))) : Nats .u64 w ao l := fun hn => by
  obtain ⟨g, cap', hv, _, h2, _⟩ := own_some h (List.length_pos_iff.2 hn)
  simp only [Value.slice.injEq] at hv
  obtain ⟨rfl, _, rfl⟩ := hv
  refine ⟨g, 0, rfl, h2, fun j hj => ?_⟩
  rw [Nat.zero_add, h.cellAt j (by omega)]
  simp [List.getElem?_eq_getElem hj]
end Go.Proofs.YteknippgiljgeaaGreatDoor
namespace Go.Proofs.YteknippgiljgeaaGreatDoor
open Go.ChangeShapes Go.WideShapes Go.ChangeAt Go.RowKit

def nvals (l : List Nat) : List Value := l.map fun n : Nat => .int .u64 (n : Int)
theorem nvals_length (l : List Nat) : (nvals l).length = l.length := by simp [nvals]
theorem wpList_app_nats {P : Program} {w : World} {ops : Array Oper} {rest : List Oper} {o : Oper} {a : Act} {Q : Exit → Act → World → Prop} (s x : Operand) (t : TypeId)
    (ho : o.op = .call { callee := .builtin .append, args := #[s, x], argTypes := #[t, t] }) (hg : o.guard = none)
    {base : Nat} {e : TypeId} {z : Value} {bytes : Nat} (he : Elem P t e z 1 bytes)
    {v : Value} {n : Nat} {xs : List Value} (hown : w.ownsRow base e 1 v n xs) (hs : a.eval s = v)
    {ao : Option Addr} {cap : Nat} {l : List Nat} (hu : Nats .u64 w ao l) (hnil : ao = none → cap = 0) (hx : a.eval x = .slice ao l.length cap)
    (h63 : n + l.length ≤ maxLen) (hbytes : (n + l.length) * bytes ≤ 140737488355328) (hbase : base ≤ w.heap.size)
    (h : ∀ v' w', w'.ownsRow base e 1 v' (n + l.length) (xs ++ nvals l) → w.grownBy w' v.ownBlock → wpList P ops Q rest (a.put o.dst v') w') : wpList P ops Q (o :: rest) a w := by
  obtain ⟨ht, hi0, hzs⟩ := he
  obtain ⟨i, hi, hz, hsize, hby⟩ := info_parts hi0
  have key : ∀ AD : Addr, ao = some AD → (∀ j (y : Value), (nvals l)[j]? = some y → w.cell? (AD.add j) = some y) → wpList P ops Q (o :: rest) a w := by
    intro AD hA hcell
    refine wpList_append_own w hg s x t ho base e i z 1 bytes ht hi hz hsize hby hzs (by decide) v n xs hs hown AD l.length cap (nvals l) (by rw [hx, hA]) (by simp [nvals]) ?_ ?_ h63 hbytes hbase fun v' w' h2 h3 _ => h v' w' h2 h3
    · exact hcell
    · intro y hy
      obtain ⟨q, _, rfl⟩ := List.mem_map.1 hy
      rfl
  by_cases hl : l = []
  · subst hl
    cases ao with
    | none =>
      refine wpList_append_own_none hg s x t ho base e i 1 ht hi v n xs hs hown (by rw [hx, hnil rfl]; rfl) ?_
      exact h v w (by simpa [nvals] using hown) ⟨rfl, rfl, rfl, Nat.le_refl _, fun _ _ _ => rfl⟩
    | some AD => exact key AD rfl (fun j y hy => by simp [nvals] at hy)
  · obtain ⟨b, off, hA, _, hc⟩ := hu hl
    refine key _ hA fun j y hj => ?_
    have hj' : j < l.length := by
      have := (List.getElem?_eq_some_iff.1 hj).1
      simpa [nvals] using this
    have hadd : (⟨b, off, none⟩ : Addr).add j = ⟨b, off + j, none⟩ := by unfold Addr.add; split <;> simp_all
    rw [hadd, hc j hj']
    simpa [nvals, List.getElem?_eq_getElem hj'] using hj
/-- an operation whose guard holds is as one without -/
theorem wpList_unguard {P : Program} {w : World} {ops : Array Oper} {rest : List Oper} {o : Oper} {a : Act} {Q : Exit → Act → World → Prop} (hw : Region.wanted o (yielded ops a.tmps) = true)
    (h : wpList P ops Q ({ o with guard := none } :: rest) a w) : wpList P ops Q (o :: rest) a w := by
  unfold wpList at h ⊢
  rw [if_pos hw]
  rw [if_pos (by rfl)] at h
  exact h
/-- a literal slice of no element owns its row -/
theorem owns_zero (w : World) (e : TypeId) (base : Nat) (hb : base ≤ w.heap.size) : (w.alloc (.cells #[] e)).ownsRow base e 1 (.slice (some ⟨w.heap.size, 0, none⟩) 0 0) 0 [] :=
  ⟨rfl, .inr ⟨w.heap.size, 0, #[], rfl, hb, heap_alloc_new w _, Nat.le_refl _, by simp [maxLen], rfl, rfl⟩⟩
/-- an argument that is nil has no capacity -/
theorem nil_cap {H : Type} {enc : TypeId × Value → H} {P : Program} {W : World} {sp : Nat → Bool} {T E : TypeId} {k : IntKind} {len cap : Nat} {ao : Option Addr} {d : DataW H} {p : List MemPlace}
    (hT : P.underlying T = some (.slice E)) (hE : P.underlying E = some (.int k)) (hcE : P.cellsOf E = 1)
    (h : DataW.Trod enc P W 0 sp true T (.slice ao len cap) d p) : ao = none → cap = 0 := by
  intro hn
  subst hn
  obtain ⟨fuel, hf⟩ := h
  rcases open_ints hT hE hcE hf with ⟨hcs, _⟩ | ⟨a, len', cap', zs, hcs, _⟩
  · simp [Value.cells] at hcs
    exact hcs.2
  · simp [Value.cells] at hcs
theorem len_cap {H : Type} {enc : TypeId × Value → H} {P : Program} {W : World} {sp : Nat → Bool} {T E : TypeId} {k : IntKind} {len cap : Nat} {ao : Option Addr} {d : DataW H} {p : List MemPlace}
    (hT : P.underlying T = some (.slice E)) (hE : P.underlying E = some (.int k)) (hcE : P.cellsOf E = 1)
    (h : DataW.Trod enc P W 0 sp true T (.slice ao len cap) d p) : len ≤ cap := by
  obtain ⟨fuel, hf⟩ := h
  rcases open_ints hT hE hcE hf with ⟨hcs, _⟩ | ⟨a, len', cap', zs, hcs, _, h2, _⟩
  · simp [Value.cells] at hcs
    omega
  · simp [Value.cells] at hcs
    omega
end Go.Proofs.YteknippgiljgeaaGreatDoor
