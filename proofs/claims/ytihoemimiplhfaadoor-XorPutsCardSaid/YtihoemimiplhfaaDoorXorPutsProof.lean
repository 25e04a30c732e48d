/-
  hyglaw21.XorPuts: for every input the law returns true, and the input stays as it was.
-/
import Derived.Test.YtihoemimiplhfaaDoorXorPuts
import Derived.Test.YtihoemimiplhfaaDoorDoor
import Derived.Test.YtihoemimiplhfaaDoorRow
namespace Go.Proofs.YtihoemimiplhfaaDoor.xorPuts
open Go.ChangeShapes Go.WideShapes Go.ChangeAt Go.RowKit
open Go.ChangeMaps (open_string shut_string)

theorem reads (os : Os) {H : Type} (enc : TypeId × Value → H) : ∃ places, DataW.whole enc Tryd.prog ((laidWorld os).forCall (fun _ _ => 0) ⟨#[], #[.slice none 0 0], []⟩).memory Tryd.f3.params.toList Rows.xorPutsSpec.vars false (#[.slice none 0 0] : Array Value).toList 8 = some ([.nil], [], places) :=
  ⟨[], by kernel_rfl⟩
set_option maxRecDepth 100000 in
theorem lifted (os : Os) (started : os.Started) (H : Type) (enc : TypeId × Value → H) (F : Stop.Interp) :
    ReturnsInHanded {} Tryd.checked os 3 .any ((OpenSpec.ofChange Rows.xorPutsSpec).preRow enc Tryd.prog Tryd.f3 Rows.xorPutsRow.domain false Rows.xorPutsRow.laid) (((OpenSpec.ofChange Rows.xorPutsSpec).at F).post enc Tryd.prog Tryd.f3 false true false false) := by
  obtain ⟨places, hx⟩ := reads os enc
  refine returnsInHanded_of_row (C := Tryd.checked) (s := OpenSpec.ofChange Rows.xorPutsSpec) Tryd.own started (by kernel_rfl) Tryd.func3
    (witness_row_at (enc := enc) (C := Tryd.checked) false (laidWorld os) #[.slice none 0 0] rfl (by kernel_rfl) (by kernel_rfl) (by kernel_rfl)
      (OpenSpec.preRow_of_cond 8 hx (by kernel_rfl) (fun k hk => by cases hk) (by kernel_rfl) (laidWorld_met os _))) ?_
  intro W base args ds gs before hval0 hW _ _ _ hL _ _
  have hg : Glob W := glob_of_laid hL
  clear hL
  have hval : ∀ (j : Nat) t v, Tryd.f3.params[j]? = some t → args[j]? = some v → Value.okWide Tryd.prog W .any base t v := hval0
  have hW' := hW
  obtain ⟨p, q, hA0, hV, rfl, hfz, hnd⟩ := hW
  have hA : DataW.TrodAll enc Tryd.prog W 0 (fun _ => true) true Tryd.f3.params.toList args.toList ds p := hA0
  rw [Tryd.params3] at hA hval
  obtain ⟨v0, vs0, d0, ds0, p0, q0, hargs, rfl, rfl, h0, r0⟩ := trodAll_cons hA
  obtain ⟨rfl, rfl, rfl⟩ := trodAll_nil r0
  obtain rfl : args = #[v0] := by cases args; simp_all
  have hpl : ∀ x ∈ p0 ++ [], x.block < W.heap.size := fun x hx => by simpa using hW'.lt x (List.mem_append_left _ hx)
  obtain ⟨ao0, cap0, l0, rfl, hi0, hw0, hm0⟩ := open_Ints Tryd.underlying22 Tryd.underlying40 (by kernel_rfl) (hval 0 22 v0 rfl rfl) h0 (fun x hx => hpl x (by simp [hx]))
  refine Calls.mono ?_ (fun e W' (h : e = .returned (.bool true) ∧ Below W.heap.size W W') => ⟨_, h.1, law_post (by kernel_rfl) (by kernel_rfl) rfl Tryd.underlying4 rfl hW' (fun ds hd => by match ds, hd with | [_], _ => rfl) h.2⟩)
  have e : l0.length = (l0.map Int.toNat).length := by simp
  have h0' : ∀ n ∈ l0, 0 ≤ n ∧ n < 18446744073709551616 := fun n hn => by
    have := hw0 n hn
    simp [Lit.wf, IntKind.min, IntKind.max, IntKind.signed, IntKind.bits] at this; omega
  unfold maxLen at hm0
  by_cases hx : 2000 < l0.length
  · exact xputs_long ao0 cap0 l0.length W hx (by omega)
  · have hc := nil_cap Tryd.underlying22 Tryd.underlying40 (by kernel_rfl) h0
    rw [e]
    have hlt : ∀ n ∈ l0.map Int.toNat, n < 18446744073709551616 := by
      intro n hn
      obtain ⟨m, hm, rfl⟩ := List.mem_map.1 hn
      have := h0' m hm
      omega
    have hcb := catN_xenc_le _ hlt
    rw [← e] at hcb
    exact xputs_walk ao0 cap0 (l0.map Int.toNat) _ W (hi0.nats fun n hn => (h0' n hn).1) hc (Lib.hid hlt) (by rw [← e]; omega) (Lib.hid (by omega)) (Lib.hid rfl)

theorem over : Rows.XorPutsSaid :=
  OpenClaim.holds_of_cond 3 Tryd.f3 rfl rfl rfl rfl rfl rfl rfl ⟨rfl, rfl, rfl, rfl, rfl⟩ rfl rfl rfl rfl rfl (by kernel_rfl) Tryd.func3 (by kernel_rfl)
    (of_decide_eq_true (by kernel_rfl)) (by unfold Func.isWrapper; first | (rw [if_pos (by decide +kernel)]; kernel_rfl) | (rw [if_neg (by decide +kernel)]; exact ⟨rfl, rfl⟩))
    (fun os started H enc _ F => by rw [OpenClaim.pre_eq_preRow]; exact lifted os started H enc F)
theorem looks (f : FuncId) (fn : Func) (hf : Tryd.pinned.checked.prog.funcNamed "hygrometer/hyglaw21.XorPuts" = some f) (hfn : Tryd.pinned.checked.prog.funcs[f]? = some fn) :
    true = Tryd.pinned.checked.prog.looks [] ∧ ∀ (j : Nat) t, fn.params[j]? = some t → Tryd.pinned.checked.prog.wantsStandIn t = false := by
  obtain rfl : f = 3 := Option.some.inj ((show Tryd.prog.funcNamed "hygrometer/hyglaw21.XorPuts" = some 3 by kernel_rfl).symm.trans hf) |>.symm
  obtain rfl : fn = Tryd.f3 := (Option.some.inj (Tryd.func3.symm.trans hfn)).symm
  refine ⟨by kernel_rfl, fun j t ht => ?_⟩
  have hall : Tryd.f3.params.toList.all (fun t => Tryd.prog.wantsStandIn t == false) = true := by kernel_rfl
  have := List.all_eq_true.1 hall t (by simpa using Array.mem_of_getElem? ht)
  exact eq_of_beq this
theorem proved : Rows.XorPutsCardSaid :=
  Claim7.holds_tied_plain_at .later [] _ _ _ _ over (fun _ h => by cases h) (by kernel_rfl) (fun _ h => by cases h) xorPuts_row_tie rfl ⟨rfl, rfl⟩ (by kernel_rfl) rfl looks (by kernel_rfl)
end Go.Proofs.YtihoemimiplhfaaDoor.xorPuts
