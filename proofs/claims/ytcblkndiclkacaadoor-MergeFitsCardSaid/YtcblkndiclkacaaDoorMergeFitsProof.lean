/-
  hyglaw25.MergeFits: for every input the law returns true, and the input stays as it was.
-/
import Derived.Test.YtcblkndiclkacaaDoorMxFits
import Derived.Test.YtcblkndiclkacaaDoorMxDoor
import Derived.Test.YtcblkndiclkacaaDoorXpOpen
set_option maxRecDepth 1000000
set_option maxHeartbeats 16000000
namespace Go.Proofs.YtcblkndiclkacaaDoor.mergeFits
open Go.ChangeShapes Go.WideShapes Go.ChangeAt Go.RowKit
open Go.ChangeMaps (open_string shut_string)
theorem reads (os : Os) {H : Type} (enc : TypeId × Value → H) : ∃ places, DataW.whole enc Tryd.prog ((twoWorld os).forCall (fun _ _ => 0) ⟨#[], #[.agg #[.slice none 0 0, .int .u64 0, .int .u64 0, .int .u64 0, .bool false, .int .u64 0, .bool false, .int .u64 0, .bool false, .int .u64 0, .int .i32 0, .int .u64 0, .bool false, .int .i32 0, .slice none 0 0, .string .empty, .bool false, .int .i32 0, .slice none 0 0, .string .empty, .slice none 0 0, .int .u32 0, .int .u64 0, .string .empty], .int .i64 0, .int .i64 0], []⟩).memory Tryd.f7.params.toList Rows.mergeFitsSpec.vars false (#[.agg #[.slice none 0 0, .int .u64 0, .int .u64 0, .int .u64 0, .bool false, .int .u64 0, .bool false, .int .u64 0, .bool false, .int .u64 0, .int .i32 0, .int .u64 0, .bool false, .int .i32 0, .slice none 0 0, .string .empty, .bool false, .int .i32 0, .slice none 0 0, .string .empty, .slice none 0 0, .int .u32 0, .int .u64 0, .string .empty], .int .i64 0, .int .i64 0] : Array Value).toList 8 = some ([.agg [.nil, .lit (.int .u64 0), .lit (.int .u64 0), .lit (.int .u64 0), .agg [.lit (.bool false), .lit (.int .u64 0)], .agg [.lit (.bool false), .lit (.int .u64 0)], .agg [.lit (.bool false), .lit (.int .u64 0)], .lit (.int .i32 0), .lit (.int .u64 0), .lit (.bool false), .agg [.lit (.int .i32 0), .nil, .lit (.string [])], .lit (.bool false), .agg [.lit (.int .i32 0), .nil, .lit (.string [])], .nil, .lit (.int .u32 0), .lit (.int .u64 0), .lit (.string [])], .lit (.int .i64 0), .lit (.int .i64 0)], [], places) :=
 ⟨[], by kernel_rfl⟩
theorem lifted (os : Os) (started : os.Started) (H : Type) (enc : TypeId × Value → H) (F : Stop.Interp) :
  ReturnsInHanded {} Tryd.checked os 7 .any ((OpenSpec.ofChange Rows.mergeFitsSpec).preRow enc Tryd.prog Tryd.f7 Rows.mergeFitsRow.domain false Rows.mergeFitsRow.laid) (((OpenSpec.ofChange Rows.mergeFitsSpec).at F).post enc Tryd.prog Tryd.f7 false true false false) := by
 obtain ⟨places, hx⟩ := reads os enc
 refine returnsInHanded_of_row (C := Tryd.checked) (s := OpenSpec.ofChange Rows.mergeFitsSpec) Tryd.own started (by kernel_rfl) Tryd.func7
  (witness_row_at (enc := enc) (C := Tryd.checked) false (twoWorld os) #[.agg #[.slice none 0 0, .int .u64 0, .int .u64 0, .int .u64 0, .bool false, .int .u64 0, .bool false, .int .u64 0, .bool false, .int .u64 0, .int .i32 0, .int .u64 0, .bool false, .int .i32 0, .slice none 0 0, .string .empty, .bool false, .int .i32 0, .slice none 0 0, .string .empty, .slice none 0 0, .int .u32 0, .int .u64 0, .string .empty], .int .i64 0, .int .i64 0] rfl (by kernel_rfl) (by kernel_rfl) (by kernel_rfl)
   (OpenSpec.preRow_of_cond 8 hx (by kernel_rfl) (fun k hk => by cases hk) (by kernel_rfl) (twoWorld_met os _))) ?_
 intro W base args ds gs before hval0 hW _ _ _ hL _ _
 obtain ⟨hg, ew, hew⟩ := glob_of_two hL
 clear hL
 have hval : ∀ (j : Nat) t v, Tryd.f7.params[j]? = some t → args[j]? = some v → Value.okWide Tryd.prog W .any base t v := hval0
 have hW' := hW
 obtain ⟨p, q, hA0, hV, rfl, hfz, hnd⟩ := hW
 have hA : DataW.TrodAll enc Tryd.prog W 0 (fun _ => true) true Tryd.f7.params.toList args.toList ds p := hA0
 rw [Tryd.params7] at hA hval
 obtain ⟨v0, vs0, d0, ds0, p0, q0, hargs, rfl, rfl, h0, r0⟩ := trodAll_cons hA
 obtain ⟨v1, vs1, d1, ds1, p1, q1, rfl, rfl, rfl, h1, r1⟩ := trodAll_cons r0
 obtain ⟨v2, vs2, d2, ds2, p2, q2, rfl, rfl, rfl, h2, r2⟩ := trodAll_cons r1
 obtain ⟨rfl, rfl, rfl⟩ := trodAll_nil r2
 obtain rfl : args = #[v0, v1, v2] := by cases args; simp_all
 have hpl : ∀ x ∈ p0 ++ (p1 ++ (p2 ++ [])), x.block < W.heap.size := fun x hx => by simpa using hW'.lt x (List.mem_append_left _ hx)
 obtain ⟨x0, c0, rfl, hx0, ha0⟩ := open_xp (hval 0 46 v0 rfl rfl) h0
 obtain ⟨a1, rfl, rfl, rfl, w1⟩ := open_int Tryd.underlying3 (hval 1 3 v1 rfl rfl) h1
 have b1 : -9223372036854775808 ≤ a1 ∧ a1 ≤ 9223372036854775807 := by simp [Lit.wf, IntKind.min, IntKind.max, IntKind.signed, IntKind.bits] at w1; omega
 obtain ⟨a2, rfl, rfl, rfl, w2⟩ := open_int Tryd.underlying3 (hval 2 3 v2 rfl rfl) h2
 have b2 : -9223372036854775808 ≤ a2 ∧ a2 ≤ 9223372036854775807 := by simp [Lit.wf, IntKind.min, IntKind.max, IntKind.signed, IntKind.bits] at w2; omega
 refine Calls.mono ?_ (fun e W' (h : e = .returned (.bool true) ∧ Below W.heap.size W W') => ⟨_, h.1, law_post (by kernel_rfl) (by kernel_rfl) rfl Tryd.underlying4 rfl hW' (fun ds hd => by match ds, hd with | [_, _, _], _ => rfl) h.2⟩)
 obtain ⟨⟨l, ⟨a, ⟨t, ⟨k, ⟨⟨bp, vp⟩, ⟨sc, ⟨zc, ⟨⟨gp, ⟨po, pc⟩, pu⟩, ⟨⟨gn, ⟨no, nc⟩, nu⟩, ⟨f, ⟨es, ⟨⟨bm, vm⟩, ⟨⟨bg, vg⟩, th⟩⟩⟩⟩⟩⟩⟩⟩⟩⟩⟩⟩⟩, u⟩ := x0
 obtain ⟨lo, lc, pco, pcc, nco, ncc, eo, ec, rfl, -⟩ := id hx0
 exact fits_any l a t k bp vp bm vm bg vg sc zc gp po pc pu gn no nc nu es f th u lo lc pco pcc nco ncc eo ec a1 a2 ew _ W (Lib.hid hg) (Lib.hid hew) b1 (Lib.hid ha0) (Lib.hid hx0)
theorem over : Rows.MergeFitsSaid :=
 OpenClaim.holds_of_cond 7 Tryd.f7 rfl rfl rfl rfl rfl rfl rfl ⟨rfl, rfl, rfl, rfl, rfl⟩ rfl rfl rfl rfl rfl (by kernel_rfl) Tryd.func7 (by kernel_rfl)
  (of_decide_eq_true (by kernel_rfl)) (by unfold Func.isWrapper; first | (rw [if_pos (by decide +kernel)]; kernel_rfl) | (rw [if_neg (by decide +kernel)]; exact ⟨rfl, rfl⟩))
  (fun os started H enc _ F => by rw [OpenClaim.pre_eq_preRow]; exact lifted os started H enc F)
theorem looks (f : FuncId) (fn : Func) (hf : Tryd.pinned.checked.prog.funcNamed "hygrometer/hyglaw25.MergeFits" = some f) (hfn : Tryd.pinned.checked.prog.funcs[f]? = some fn) :
  true = Tryd.pinned.checked.prog.looks [] ∧ ∀ (j : Nat) t, fn.params[j]? = some t → Tryd.pinned.checked.prog.wantsStandIn t = false := by
 obtain rfl : f = 7 := Option.some.inj ((show Tryd.prog.funcNamed "hygrometer/hyglaw25.MergeFits" = some 7 by kernel_rfl).symm.trans hf) |>.symm
 obtain rfl : fn = Tryd.f7 := (Option.some.inj (Tryd.func7.symm.trans hfn)).symm
 refine ⟨by kernel_rfl, fun j t ht => ?_⟩
 have hall : Tryd.f7.params.toList.all (fun t => Tryd.prog.wantsStandIn t == false) = true := by kernel_rfl
 have := List.all_eq_true.1 hall t (by simpa using Array.mem_of_getElem? ht)
 exact eq_of_beq this
theorem proved : Rows.MergeFitsCardSaid :=
 Claim7.holds_tied_plain_at .later [] _ _ _ _ over (fun _ h => by cases h) (by kernel_rfl) (fun _ h => by cases h) mergeFits_row_tie rfl ⟨rfl, rfl⟩ (by kernel_rfl) rfl looks (by kernel_rfl)
end Go.Proofs.YtcblkndiclkacaaDoor.mergeFits
