/-
  hyglaw22.RunsDeltas: for every input the law returns true, and the input stays as it was.
-/
import Derived.Test.YtkpljnfakidjeabRunsDeltas
import Derived.Test.YtkpljnfakidjeabRow
namespace Go.Proofs.Ytkpljnfakidjeab.runsDeltas
open Go.ChangeShapes Go.WideShapes Go.ChangeAt Go.RowKit
open Go.ChangeMaps (open_string shut_string)

theorem own : ownKnob Try.prog.godebug = none := by kernel_rfl

set_option maxRecDepth 100000 in
theorem lifted (os : Os) (started : os.Started) (H : Type) (enc : TypeId × Value → H) :
    ReturnsInHanded {} Try.checked os 7 .any (Rows.runsDeltasSpec.pre6 enc Try.prog Try.f7 Rows.runsDeltasRow.domain false) (Rows.runsDeltasSpec.post enc Try.prog Try.f7 false true false false) := by
  refine returnsInHanded_of_change (C := Try.checked) own started (by kernel_rfl) Try.func7
    (ChangeSpec.witness6 (enc := enc) (C := Try.checked) false ⟨#[], #[.slice none 0 0], []⟩ 8 (by kernel_rfl) (by kernel_rfl) (by kernel_rfl) (by kernel_rfl)) ?_
  intro W base args ds gs before hval0 hW _ _
  have hval : ∀ (j : Nat) t v, Try.f7.params[j]? = some t → args[j]? = some v → Value.okWide Try.prog W .any base t v := hval0
  have hW' := hW
  obtain ⟨p, q, hA0, hV, rfl, hfz, hnd⟩ := hW
  have hA : DataW.TrodAll enc Try.prog W 0 (fun _ => true) true Try.f7.params.toList args.toList ds p := hA0
  rw [Try.params7] at hA hval
  obtain ⟨v0, vs0, d0, ds0, p0, q0, hargs, rfl, rfl, h0, r0⟩ := trodAll_cons hA
  obtain ⟨rfl, rfl, rfl⟩ := trodAll_nil r0
  obtain rfl : args = #[v0] := by cases args; simp_all
  have hpl : ∀ x ∈ p0 ++ [], x.block < W.heap.size := fun x hx => by simpa using hW'.lt x (List.mem_append_left _ hx)
  obtain ⟨ao0, cap0, l0, rfl, hi0, hw0, hm0⟩ := open_Ints Try.underlying22 Try.underlying48 (by kernel_rfl) (hval 0 22 v0 rfl rfl) h0 (fun x hx => hpl x (by simp [hx]))
  refine Calls.mono ?_ (fun e W' (h : e = .returned (.bool true) ∧ Below W.heap.size W W') => ⟨_, h.1, law_post (by kernel_rfl) (by kernel_rfl) rfl Try.underlying4 rfl hW' (fun ds hd => by match ds, hd with | [_], _ => rfl) h.2⟩)
  have e : l0.length = (l0.map Int.toNat).length := by simp
  have h0' : ∀ n ∈ l0, 0 ≤ n ∧ n < 18446744073709551616 := fun n hn => by
    have := hw0 n hn
    simp [Lit.wf, IntKind.min, IntKind.max, IntKind.signed, IntKind.bits] at this; omega
  unfold maxLen at hm0
  by_cases hx : 2000 < l0.length
  · exact deltas_long ao0 cap0 l0.length W hx (by omega)
  · have hc := nil_cap Try.underlying22 Try.underlying48 (by kernel_rfl) h0
    rw [e]
    refine deltas_any ao0 cap0 (l0.map Int.toNat) W (hi0.nats fun n hn => (h0' n hn).1) hc ?_ (by rw [← e]; omega)
    intro n hn
    obtain ⟨m, hm, rfl⟩ := List.mem_map.1 hn
    have := h0' m hm
    omega

theorem proved : Rows.RunsDeltasSaid :=
  OpenClaim.holds_of_wide 7 Try.f7 rfl rfl rfl rfl rfl rfl rfl ⟨rfl, rfl, rfl, rfl, rfl⟩ rfl rfl rfl rfl rfl (by kernel_rfl) Try.func7 (by kernel_rfl)
    (of_decide_eq_true (by kernel_rfl)) (by unfold Func.isWrapper; first | (rw [if_pos (by decide +kernel)]; kernel_rfl) | (rw [if_neg (by decide +kernel)]; exact ⟨rfl, rfl⟩))
    (fun os started H enc _ => lifted os started H enc)
end Go.Proofs.Ytkpljnfakidjeab.runsDeltas
