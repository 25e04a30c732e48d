/-
  hyglaw7.FaddCuts: for every input the law returns true, and the input stays as it was.
-/
import Derived.Test.YtkpljnfakidjeaaFaddCuts
import Derived.Test.YtkpljnfakidjeaaRow
namespace Go.Proofs.Ytkpljnfakidjeaa.faddCuts
open Go.ChangeShapes Go.WideShapes Go.ChangeAt Go.RowKit
open Go.ChangeMaps (open_string shut_string)

theorem own : ownKnob Try.prog.godebug = none := by kernel_rfl

set_option maxRecDepth 100000 in
theorem lifted (os : Os) (started : os.Started) (H : Type) (enc : TypeId × Value → H) :
    ReturnsInHanded {} Try.checked os 8 .any (Rows.faddCutsSpec.pre6 enc Try.prog Try.f8 Rows.faddCutsRow.domain false) (Rows.faddCutsSpec.post enc Try.prog Try.f8 false true false false) := by
  refine returnsInHanded_of_change (C := Try.checked) own started (by kernel_rfl) Try.func8
    (ChangeSpec.witness6 (enc := enc) (C := Try.checked) false ⟨#[], #[.slice none 0 0, .int .i64 0], []⟩ 8 (by kernel_rfl) (by kernel_rfl) (by kernel_rfl) (by kernel_rfl)) ?_
  intro W base args ds gs before hval0 hW _ _
  have hval : ∀ (j : Nat) t v, Try.f8.params[j]? = some t → args[j]? = some v → Value.okWide Try.prog W .any base t v := hval0
  have hW' := hW
  obtain ⟨p, q, hA0, hV, rfl, hfz, hnd⟩ := hW
  have hA : DataW.TrodAll enc Try.prog W 0 (fun _ => true) true Try.f8.params.toList args.toList ds p := hA0
  rw [Try.params8] at hA hval
  obtain ⟨v0, vs0, d0, ds0, p0, q0, hargs, rfl, rfl, h0, r0⟩ := trodAll_cons hA
  obtain ⟨v1, vs1, d1, ds1, p1, q1, rfl, rfl, rfl, h1, r1⟩ := trodAll_cons r0
  obtain ⟨rfl, rfl, rfl⟩ := trodAll_nil r1
  obtain rfl : args = #[v0, v1] := by cases args; simp_all
  have hpl : ∀ x ∈ p0 ++ (p1 ++ []), x.block < W.heap.size := fun x hx => by simpa using hW'.lt x (List.mem_append_left _ hx)
  obtain ⟨ao0, cap0, l0, rfl, hi0, hw0, hm0⟩ := open_Ints Try.underlying27 Try.underlying22 (by kernel_rfl) (hval 0 27 v0 rfl rfl) h0 (fun x hx => hpl x (by simp [hx]))
  obtain ⟨a1, rfl, rfl, rfl, w1⟩ := open_int Try.underlying3 (hval 1 3 v1 rfl rfl) h1
  have b1 : -9223372036854775808 ≤ a1 ∧ a1 ≤ 9223372036854775807 := by simp [Lit.wf, IntKind.min, IntKind.max, IntKind.signed, IntKind.bits] at w1; omega
  refine Calls.mono ?_ (fun e W' (h : e = .returned (.bool true) ∧ Below W.heap.size W W') => ⟨_, h.1, law_post (by kernel_rfl) (by kernel_rfl) rfl Try.underlying4 rfl hW' (fun ds hd => by match ds, hd with | [_, _], _ => rfl) h.2⟩)
  have e : l0.length = (l0.map Int.toNat).length := by simp
  by_cases hx : CutBad l0.length a1
  · rw [e] at hx hm0 ⊢
    exact cuts_bad ao0 cap0 (l0.map Int.toNat) a1 W hx hm0
  · unfold CutBad at hx
    have h0' : ∀ n ∈ l0, 0 ≤ n ∧ n < 18446744073709551616 := fun n hn => by
      have := hw0 n hn
      simp [Lit.wf, IntKind.min, IntKind.max, IntKind.signed, IntKind.bits] at this; omega
    have hc := nil_cap Try.underlying27 Try.underlying22 (by kernel_rfl) h0
    have hlc := len_cap Try.underlying27 Try.underlying22 (by kernel_rfl) h0
    obtain ⟨c, rfl⟩ := Int.eq_ofNat_of_zero_le (show 0 ≤ a1 by omega)
    rw [e] at hlc ⊢
    refine cuts_walk ao0 cap0 (l0.map Int.toNat) c _ _ W (hi0.nats fun n hn => (h0' n hn).1) hc (Lib.hid ?_) (by rw [← e]; omega) hlc (by rw [← e]; omega) (Lib.hid rfl) (Lib.hid rfl)
    intro n hn
    obtain ⟨m, hm, rfl⟩ := List.mem_map.1 hn
    have := h0' m hm
    omega

theorem proved : Rows.FaddCutsSaid :=
  OpenClaim.holds_of_wide 8 Try.f8 rfl rfl rfl rfl rfl rfl rfl ⟨rfl, rfl, rfl, rfl, rfl⟩ rfl rfl rfl rfl rfl (by kernel_rfl) Try.func8 (by kernel_rfl)
    (of_decide_eq_true (by kernel_rfl)) (by unfold Func.isWrapper; first | (rw [if_pos (by decide +kernel)]; kernel_rfl) | (rw [if_neg (by decide +kernel)]; exact ⟨rfl, rfl⟩))
    (fun os started H enc _ => lifted os started H enc)
end Go.Proofs.Ytkpljnfakidjeaa.faddCuts
