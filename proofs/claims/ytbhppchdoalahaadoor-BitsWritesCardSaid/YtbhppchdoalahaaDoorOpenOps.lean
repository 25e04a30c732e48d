/-
  A list of numbers and counts that comes in, opened.
-/
import Derived.Test.YtbhppchdoalahaaDoorOpsArg
namespace Go.Proofs.YtbhppchdoalahaaDoor
open Go.ChangeShapes Go.WideShapes Go.ChangeAt Go.RowKit

set_option maxRecDepth 100000 in
theorem open_Ops {H : Type} {enc : TypeId × Value → H} {W : World} {base : Nat} {v : Value} {d : DataW H} {p : List MemPlace}
    (hv : Value.okWide Tryd.prog W .any base 67 v) (h : DataW.Trod enc Tryd.prog W 0 (fun _ => true) true 67 v d p) :
    ∃ ao cap l, v = .slice ao (List.length l) cap ∧ Ops W ao l ∧ (∀ y ∈ l, (Lit.int .u64 y.1).wf = true ∧ (Lit.int .i64 y.2).wf = true) ∧ l.length ≤ maxLen :=
  open_Prs (fun x : Int × Int => .int .u64 x.1) (fun x => .int .i64 x.2) (fun y => (Lit.int .u64 y.1).wf = true ∧ (Lit.int .i64 y.2).wf = true) Tryd.underlying67 Tryd.underlying77 (by kernel_rfl) rfl rfl (by kernel_rfl) (by kernel_rfl)
    (fun h0 h1 => by
      obtain ⟨m, e0, _, w0⟩ := DataW.trod_int Tryd.underlying34 h0
      obtain ⟨n, e1, _, w1⟩ := DataW.trod_int Tryd.underlying3 h1
      simp only [List.cons.injEq, and_true] at e0 e1
      exact ⟨(m, n), e0, e1, w0, w1⟩) hv h
theorem ops_u64 {l : List (Int × Int)} (h : ∀ y ∈ l, (Lit.int .u64 y.1).wf = true ∧ (Lit.int .i64 y.2).wf = true) : ∀ x ∈ l, 0 ≤ x.1 ∧ x.1 < 18446744073709551616 := fun x hx => by
  have := (h x hx).1
  simp [Lit.wf, IntKind.min, IntKind.max, IntKind.signed, IntKind.bits] at this; omega
end Go.Proofs.YtbhppchdoalahaaDoor
