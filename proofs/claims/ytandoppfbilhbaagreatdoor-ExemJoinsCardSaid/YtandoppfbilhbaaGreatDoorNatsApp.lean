/-
  A slice of numbers that is only read: what its cells hold.
-/
/-
  hygref.Nums: two lists of one content.
-/
import Derived.Test.YtandoppfbilhbaaGreatDoorKit
import Derived.ProofKit
import Derived.Test.YtandoppfbilhbaaGreatDoorUpd
import Derived.Deep.LoopGhost
import Derived.Deep.QuietTactic
import Derived.Laws.AppendOwnNone
namespace Go.Proofs.YtandoppfbilhbaaGreatDoor
open Go.ChangeShapes Go.WideShapes Go.ChangeAt Go.RowKit

/-- v is a slice whose elements are the numbers l -/
def Ints (k : IntKind) (w : World) (ao : Option Addr) (l : List Int) : Prop :=
  l ≠ [] → ∃ b off, ao = some ⟨b, off, none⟩ ∧ b < w.heap.size ∧ ∀ j (h : j < l.length), w.cell? ⟨b, off + j, none⟩ = some (.int k l[j])
theorem Ints.below {k : IntKind} {w w' : World} {ao : Option Addr} {l : List Int} (h : Ints k w ao l) (hb : Below w.heap.size w w') : Ints k w' ao l := fun hn => by
  obtain ⟨b, off, e, hlt, hc⟩ := h hn
  exact ⟨b, off, e, Nat.lt_of_lt_of_le hlt hb.size, fun j hj => (hb.cell (p := ⟨b, off + j, none⟩) hlt).trans (hc j hj)⟩
theorem Ints.at {k : IntKind} {w : World} {ao : Option Addr} {l : List Int} (h : Ints k w ao l) {i : Nat} (hi : i < l.length) : ∃ b off, ao = some ⟨b, off, none⟩ ∧ b < w.heap.size ∧ w.cell? ⟨b, off + i, none⟩ = some (.int k l[i]) := by
  obtain ⟨b, off, e, hlt, hc⟩ := h (by intro e; subst e; simp at hi)
  exact ⟨b, off, e, hlt, hc i hi⟩

/-- an argument that is a slice of numbers, opened -/
theorem open_Ints {H : Type} {enc : TypeId × Value → H} {P : Program} {W : World} {sp : Nat → Bool} {base : Nat} {T E : TypeId} {k : IntKind} {v : Value} {d : DataW H} {p : List MemPlace}
    (hT : P.underlying T = some (.slice E)) (hE : P.underlying E = some (.int k)) (hcE : P.cellsOf E = 1) (hv : Value.okWide P W .any base T v)
    (h : DataW.Trod enc P W 0 sp true T v d p) (hlt : ∀ x ∈ p, x.block < W.heap.size) :
    ∃ ao cap l, v = .slice ao (List.length l) cap ∧ Ints k W ao l ∧ (∀ n ∈ l, (Lit.int k n).wf = true) ∧ l.length ≤ maxLen := by
  obtain ⟨ao, len, cap, rfl⟩ := okWide_slice hT hv
  obtain ⟨fuel, hf⟩ := h
  rcases open_ints hT hE hcE hf with ⟨hcs, hx⟩ | ⟨a, len', cap', zs, hcs, _, hl, hm, hz, hx, hcell, hwz⟩
  · simp [Value.cells] at hcs
    obtain ⟨rfl, rfl, rfl⟩ := hcs
    exact ⟨none, 0, [], rfl, fun h => absurd rfl h, by simp, by simp [maxLen]⟩
  · simp [Value.cells] at hcs
    obtain ⟨rfl, rfl, rfl⟩ := hcs
    have hle : len ≤ zs.length := by rw [hz]; split <;> omega
    have hll : (zs.take len).length = len := by simp; omega
    refine ⟨some a, cap, zs.take len, by rw [hll], fun hne => ?_, fun n hn => hwz n (List.mem_of_mem_take hn), by rw [hll]; omega⟩
    have h0 : 0 < len := by
      rcases Nat.eq_zero_or_pos len with e | e
      · subst e; exact absurd rfl hne
      · exact e
    obtain ⟨b, off, spot⟩ := a
    have hspot : spot = none := by simpa [Addr.add] using World.cell?_spot (hcell 0 (by omega))
    subst hspot
    simp only [Prod.mk.injEq] at hx
    have hp : p = MemPlace.row ⟨b, off, none⟩ zs.length := hx.2
    refine ⟨b, off, rfl, hlt (.cell b off) (by rw [hp]; exact MemPlace.mem_row.2 ⟨0, by omega, by simp⟩), fun j hj => ?_⟩
    have hj' : j < zs.length := by omega
    have := hcell j hj'
    have hadd : (⟨b, off, none⟩ : Addr).add j = ⟨b, off + j, none⟩ := by unfold Addr.add; split <;> simp_all
    rw [hadd] at this
    rw [this]
    simp [List.getElem_take, List.getElem?_eq_getElem hj']

/-- the same, the numbers as natural ones -/
def Nats (k : IntKind) (w : World) (ao : Option Addr) (l : List Nat) : Prop :=
  l ≠ [] → ∃ b off, ao = some ⟨b, off, none⟩ ∧ b < w.heap.size ∧ ∀ j (h : j < l.length), w.cell? ⟨b, off + j, none⟩ = some (.int k ((l[j] : Nat) : Int))
theorem Nats.below {k : IntKind} {w w' : World} {ao : Option Addr} {l : List Nat} (h : Nats k w ao l) (hb : Below w.heap.size w w') : Nats k w' ao l := fun hn => by
  obtain ⟨b, off, e, hlt, hc⟩ := h hn
  exact ⟨b, off, e, Nat.lt_of_lt_of_le hlt hb.size, fun j hj => (hb.cell (p := ⟨b, off + j, none⟩) hlt).trans (hc j hj)⟩
/-- the i-th one, under a name of its own -/
theorem Nats.at {k : IntKind} {w : World} {ao : Option Addr} {l : List Nat} (h : Nats k w ao l) {i : Nat} (hi : i < l.length) : ∃ b off n, Hid (n = l[i]) ∧ ao = some ⟨b, off, none⟩ ∧ b < w.heap.size ∧ w.cell? ⟨b, off + i, none⟩ = some (.int k ((n : Nat) : Int)) := by
  obtain ⟨b, off, e, hlt, hc⟩ := h (by intro e; subst e; simp at hi)
  exact ⟨b, off, l[i], Lib.hid rfl, e, hlt, hc i hi⟩
theorem Ints.nats {k : IntKind} {w : World} {ao : Option Addr} {l : List Int} (h : Ints k w ao l) (h0 : ∀ n ∈ l, 0 ≤ n) : Nats k w ao (l.map Int.toNat) := fun hn => by
  obtain ⟨b, off, e, hlt, hc⟩ := h (by intro e; subst e; exact hn rfl)
  refine ⟨b, off, e, hlt, fun j hj => ?_⟩
  have hj' : j < l.length := by simpa using hj
  rw [hc j hj']
  have := h0 l[j] (List.getElem_mem _)
  simp only [List.getElem_map]
  rw [Int.toNat_of_nonneg this]
end Go.Proofs.YtandoppfbilhbaaGreatDoor
/-
  A row of the call's own, to which a slice of numbers is appended.
-/
namespace Go.Proofs.YtandoppfbilhbaaGreatDoor
open Go.RowKit

theorem nats_of_own {w : World} {base : Nat} {e : TypeId} {ao : Option Addr} {cap : Nat} {l : List Nat} (h : w.ownsRow base e 1 (.slice ao l.length cap) l.length (l.map fun n : Nat => .int .u64 (n : Int))) : Nats .u64 w ao l := fun hn => by
  obtain ⟨g, cap', hv, _, h2, _⟩ := own_some h (List.length_pos_iff.2 hn)
  simp only [Value.slice.injEq] at hv
  obtain ⟨rfl, _, rfl⟩ := hv
  refine ⟨g, 0, rfl, h2, fun j hj => ?_⟩
  rw [Nat.zero_add, h.cellAt j (by omega)]
  simp [List.getElem?_eq_getElem hj]
end Go.Proofs.YtandoppfbilhbaaGreatDoor
namespace Go.Proofs.YtandoppfbilhbaaGreatDoor
open Go.ChangeShapes Go.WideShapes Go.ChangeAt Go.RowKit

def nvals (l : List Nat) : List Value := l.map fun n : Nat => .int .u64 (n : Int)
theorem nvals_length (l : List Nat) : (nvals l).length = l.length := by simp [nvals]
theorem wpList_app_nats {P : Program} {w : World} {ops : Array Oper} {rest : List Oper} {o : Oper} {a : Act} {Q : Exit → Act → World → Prop} (s x : Operand) (t : TypeId)
    (ho : o.op = .call { callee := .builtin .append, args := #[s, x], argTypes := #[t, t] }) (hg : o.guard = none)
    {base : Nat} {e : TypeId} {z : Value} {bytes : Nat} (he : Elem P t e z 1 bytes)
    {v : Value} {n : Nat} {xs : List Value} (hown : w.ownsRow base e 1 v n xs) (hs : a.eval s = v)
    {ao : Option Addr} {cap : Nat} {l : List Nat} (hu : Nats .u64 w ao l) (hnil : ao = none → cap = 0) (hx : a.eval x = .slice ao l.length cap)
    (h63 : n + l.length ≤ maxLen) (hbytes : (n + l.length) * bytes ≤ 140737488355328) (hbase : base ≤ w.heap.size)
    (h : ∀ v' w', w'.ownsRow base e 1 v' (n + l.length) (xs ++ nvals l) → w.grownBy w' v.ownBlock → wpList P ops Q rest (a.put o.dst v') w') : wpList P ops Q (o :: rest) a w := by
  obtain ⟨ht, hi0, hzs⟩ := he
  obtain ⟨i, hi, hz, hsize, hby⟩ := info_parts hi0
  have key : ∀ AD : Addr, ao = some AD → (∀ j (y : Value), (nvals l)[j]? = some y → w.cell? (AD.add j) = some y) → wpList P ops Q (o :: rest) a w := by
    intro AD hA hcell
    refine wpList_append_own w hg s x t ho base e i z 1 bytes ht hi hz hsize hby hzs (by decide) v n xs hs hown AD l.length cap (nvals l) (by rw [hx, hA]) (by simp [nvals]) ?_ ?_ h63 hbytes hbase fun v' w' h2 h3 _ => h v' w' h2 h3
    · exact hcell
    · intro y hy
      obtain ⟨q, _, rfl⟩ := List.mem_map.1 hy
      rfl
  by_cases hl : l = []
  · subst hl
    cases ao with
    | none =>
      refine wpList_append_own_none hg s x t ho base e i 1 ht hi v n xs hs hown (by rw [hx, hnil rfl]; rfl) ?_
      exact h v w (by simpa [nvals] using hown) ⟨rfl, rfl, rfl, Nat.le_refl _, fun _ _ _ => rfl⟩
    | some AD => exact key AD rfl (fun j y hy => by simp [nvals] at hy)
  · obtain ⟨b, off, hA, _, hc⟩ := hu hl
    refine key _ hA fun j y hj => ?_
    have hj' : j < l.length := by
      have := (List.getElem?_eq_some_iff.1 hj).1
      simpa [nvals] using this
    have hadd : (⟨b, off, none⟩ : Addr).add j = ⟨b, off + j, none⟩ := by unfold Addr.add; split <;> simp_all
    rw [hadd, hc j hj']
    simpa [nvals, List.getElem?_eq_getElem hj'] using hj
/-- an operation whose guard holds is as one without -/
theorem wpList_unguard {P : Program} {w : World} {ops : Array Oper} {rest : List Oper} {o : Oper} {a : Act} {Q : Exit → Act → World → Prop} (hw : Region.wanted o (yielded ops a.tmps) = true)
    (h : wpList P ops Q ({ o with guard := none } :: rest) a w) : wpList P ops Q (o :: rest) a w := by
  unfold wpList at h ⊢
  rw [if_pos hw]
  rw [if_pos (by rfl)] at h
  exact h
/-- a literal slice of no element owns its row -/
theorem owns_zero (w : World) (e : TypeId) (base : Nat) (hb : base ≤ w.heap.size) : (w.alloc (.cells #[] e)).ownsRow base e 1 (.slice (some ⟨w.heap.size, 0, none⟩) 0 0) 0 [] :=
  ⟨rfl, .inr ⟨w.heap.size, 0, #[], rfl, hb, heap_alloc_new w _, Nat.le_refl _, by simp [maxLen], rfl, rfl⟩⟩
/-- an argument that is nil has no capacity -/
theorem nil_cap {H : Type} {enc : TypeId × Value → H} {P : Program} {W : World} {sp : Nat → Bool} {T E : TypeId} {k : IntKind} {len cap : Nat} {ao : Option Addr} {d : DataW H} {p : List MemPlace}
    (hT : P.underlying T = some (.slice E)) (hE : P.underlying E = some (.int k)) (hcE : P.cellsOf E = 1)
    (h : DataW.Trod enc P W 0 sp true T (.slice ao len cap) d p) : ao = none → cap = 0 := by
  intro hn
  subst hn
  obtain ⟨fuel, hf⟩ := h
  rcases open_ints hT hE hcE hf with ⟨hcs, _⟩ | ⟨a, len', cap', zs, hcs, _⟩
  · simp [Value.cells] at hcs
    exact hcs.2
  · simp [Value.cells] at hcs
theorem len_cap {H : Type} {enc : TypeId × Value → H} {P : Program} {W : World} {sp : Nat → Bool} {T E : TypeId} {k : IntKind} {len cap : Nat} {ao : Option Addr} {d : DataW H} {p : List MemPlace}
    (hT : P.underlying T = some (.slice E)) (hE : P.underlying E = some (.int k)) (hcE : P.cellsOf E = 1)
    (h : DataW.Trod enc P W 0 sp true T (.slice ao len cap) d p) : len ≤ cap := by
  obtain ⟨fuel, hf⟩ := h
  rcases open_ints hT hE hcE hf with ⟨hcs, _⟩ | ⟨a, len', cap', zs, hcs, _, h2, _⟩
  · simp [Value.cells] at hcs
    omega
  · simp [Value.cells] at hcs
    omega
end Go.Proofs.YtandoppfbilhbaaGreatDoor
