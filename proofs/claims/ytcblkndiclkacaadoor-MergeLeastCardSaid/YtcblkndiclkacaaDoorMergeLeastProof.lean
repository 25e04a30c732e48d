/-
  hyglaw25.MergeLeast: for every input the law returns true, and the input stays as it was.
-/
import Derived.Test.YtcblkndiclkacaaDoorMlLeast
import Derived.Test.YtcblkndiclkacaaDoorHiOpen
import Derived.Test.YtcblkndiclkacaaDoorDoor
set_option maxRecDepth 1000000
set_option maxHeartbeats 16000000
namespace Go.Proofs.YtcblkndiclkacaaDoor.mergeLeast
open Go.ChangeShapes Go.WideShapes Go.ChangeAt Go.RowKit
open Go.ChangeMaps (open_string shut_string)
theorem reads (os : Os) {H : Type} (enc : TypeId × Value → H) : ∃ places, DataW.whole enc Tryd.prog ((laidWorld os).forCall (fun _ _ => 0) ⟨#[], #[.agg #[.slice none 0 0, .int .u64 0, .int .u64 0, .int .u64 0, .bool false, .int .u64 0, .bool false, .int .u64 0, .bool false, .int .u64 0, .slice none 0 0, .slice none 0 0, .slice none 0 0, .int .u32 0, .string .empty], .agg #[.slice none 0 0, .int .u64 0, .int .u64 0, .int .u64 0, .bool false, .int .u64 0, .bool false, .int .u64 0, .bool false, .int .u64 0, .slice none 0 0, .slice none 0 0, .slice none 0 0, .int .u32 0, .string .empty]], []⟩).memory Tryd.f6.params.toList Rows.mergeLeastSpec.vars false (#[.agg #[.slice none 0 0, .int .u64 0, .int .u64 0, .int .u64 0, .bool false, .int .u64 0, .bool false, .int .u64 0, .bool false, .int .u64 0, .slice none 0 0, .slice none 0 0, .slice none 0 0, .int .u32 0, .string .empty], .agg #[.slice none 0 0, .int .u64 0, .int .u64 0, .int .u64 0, .bool false, .int .u64 0, .bool false, .int .u64 0, .bool false, .int .u64 0, .slice none 0 0, .slice none 0 0, .slice none 0 0, .int .u32 0, .string .empty]] : Array Value).toList 8 = some ([.agg [.nil, .lit (.int .u64 0), .lit (.int .u64 0), .lit (.int .u64 0), .agg [.lit (.bool false), .lit (.int .u64 0)], .agg [.lit (.bool false), .lit (.int .u64 0)], .agg [.lit (.bool false), .lit (.int .u64 0)], .nil, .nil, .nil, .lit (.int .u32 0), .lit (.string [])], .agg [.nil, .lit (.int .u64 0), .lit (.int .u64 0), .lit (.int .u64 0), .agg [.lit (.bool false), .lit (.int .u64 0)], .agg [.lit (.bool false), .lit (.int .u64 0)], .agg [.lit (.bool false), .lit (.int .u64 0)], .nil, .nil, .nil, .lit (.int .u32 0), .lit (.string [])]], [], places) :=
 ⟨[], by kernel_rfl⟩
theorem lifted (os : Os) (started : os.Started) (H : Type) (enc : TypeId × Value → H) (F : Stop.Interp) :
  ReturnsInHanded {} Tryd.checked os 6 .any ((OpenSpec.ofChange Rows.mergeLeastSpec).preRow enc Tryd.prog Tryd.f6 Rows.mergeLeastRow.domain false Rows.mergeLeastRow.laid) (((OpenSpec.ofChange Rows.mergeLeastSpec).at F).post enc Tryd.prog Tryd.f6 false true false false) := by
 obtain ⟨places, hx⟩ := reads os enc
 refine returnsInHanded_of_row (C := Tryd.checked) (s := OpenSpec.ofChange Rows.mergeLeastSpec) Tryd.own started (by kernel_rfl) Tryd.func6
  (witness_row_at (enc := enc) (C := Tryd.checked) false (laidWorld os) #[.agg #[.slice none 0 0, .int .u64 0, .int .u64 0, .int .u64 0, .bool false, .int .u64 0, .bool false, .int .u64 0, .bool false, .int .u64 0, .slice none 0 0, .slice none 0 0, .slice none 0 0, .int .u32 0, .string .empty], .agg #[.slice none 0 0, .int .u64 0, .int .u64 0, .int .u64 0, .bool false, .int .u64 0, .bool false, .int .u64 0, .bool false, .int .u64 0, .slice none 0 0, .slice none 0 0, .slice none 0 0, .int .u32 0, .string .empty]] rfl (by kernel_rfl) (by kernel_rfl) (by kernel_rfl)
   (OpenSpec.preRow_of_cond 8 hx (by kernel_rfl) (fun k hk => by cases hk) (by kernel_rfl) (laidWorld_met os _))) ?_
 intro W base args ds gs before hval0 hW _ _ _ hL _ _
 have hg : Glob W := glob_of_laid hL
 clear hL
 have hval : ∀ (j : Nat) t v, Tryd.f6.params[j]? = some t → args[j]? = some v → Value.okWide Tryd.prog W .any base t v := hval0
 have hW' := hW
 obtain ⟨p, q, hA0, hV, rfl, hfz, hnd⟩ := hW
 have hA : DataW.TrodAll enc Tryd.prog W 0 (fun _ => true) true Tryd.f6.params.toList args.toList ds p := hA0
 rw [Tryd.params6] at hA hval
 obtain ⟨v0, vs0, d0, ds0, p0, q0, hargs, rfl, rfl, h0, r0⟩ := trodAll_cons hA
 obtain ⟨v1, vs1, d1, ds1, p1, q1, rfl, rfl, rfl, h1, r1⟩ := trodAll_cons r0
 obtain ⟨rfl, rfl, rfl⟩ := trodAll_nil r1
 obtain rfl : args = #[v0, v1] := by cases args; simp_all
 have hpl : ∀ x ∈ p0 ++ (p1 ++ []), x.block < W.heap.size := fun x hx => by simpa using hW'.lt x (List.mem_append_left _ hx)
 obtain ⟨x0, c0, rfl, hx0, ha0⟩ := open_hi (hval 0 56 v0 rfl rfl) h0
 obtain ⟨x1, c1, rfl, hx1, ha1⟩ := open_hi (hval 1 56 v1 rfl rfl) h1
 refine Calls.mono ?_ (fun e W' (h : e = .returned (.bool true) ∧ Below W.heap.size W W') => ⟨_, h.1, law_post (by kernel_rfl) (by kernel_rfl) rfl Tryd.underlying4 rfl hW' (fun ds hd => by match ds, hd with | [_, _], _ => rfl) h.2⟩)
 obtain ⟨⟨a1, ⟨t1, ⟨k1, ⟨⟨ph1, pn1⟩, ⟨nc1, ⟨nb1, ⟨es1, ⟨l1, ⟨f1, ⟨⟨mh1, mn1⟩, ⟨gh1, gn1⟩⟩⟩⟩⟩⟩⟩⟩⟩⟩⟩, u1⟩ := x0
 obtain ⟨lo1, lc1, nco1, ncc1, nbo1, nbc1, eo1, ec1, rfl, -⟩ := id hx0
 obtain ⟨⟨a2, ⟨t2, ⟨k2, ⟨⟨ph2, pn2⟩, ⟨nc2, ⟨nb2, ⟨es2, ⟨l2, ⟨f2, ⟨⟨mh2, mn2⟩, ⟨gh2, gn2⟩⟩⟩⟩⟩⟩⟩⟩⟩⟩⟩, u2⟩ := x1
 obtain ⟨lo2, lc2, nco2, ncc2, nbo2, nbc2, eo2, ec2, rfl, -⟩ := id hx1
 exact least_any a1 t1 k1 ph1 pn1 nc1 nb1 es1 l1 f1 mh1 mn1 gh1 gn1 u1 lo1 lc1 nco1 ncc1 nbo1 nbc1 eo1 ec1 a2 t2 k2 ph2 pn2 nc2 nb2 es2 l2 f2 mh2 mn2 gh2 gn2 u2 lo2 lc2 nco2 ncc2 nbo2 nbc2 eo2 ec2 _ _ W (Lib.hid hg) (Lib.hid ha0) (Lib.hid ha1) (Lib.hid hx0) (Lib.hid hx1)
theorem over : Rows.MergeLeastSaid :=
 OpenClaim.holds_of_cond 6 Tryd.f6 rfl rfl rfl rfl rfl rfl rfl ⟨rfl, rfl, rfl, rfl, rfl⟩ rfl rfl rfl rfl rfl (by kernel_rfl) Tryd.func6 (by kernel_rfl)
  (of_decide_eq_true (by kernel_rfl)) (by unfold Func.isWrapper; first | (rw [if_pos (by decide +kernel)]; kernel_rfl) | (rw [if_neg (by decide +kernel)]; exact ⟨rfl, rfl⟩))
  (fun os started H enc _ F => by rw [OpenClaim.pre_eq_preRow]; exact lifted os started H enc F)
theorem looks (f : FuncId) (fn : Func) (hf : Tryd.pinned.checked.prog.funcNamed "hygrometer/hyglaw25.MergeLeast" = some f) (hfn : Tryd.pinned.checked.prog.funcs[f]? = some fn) :
  true = Tryd.pinned.checked.prog.looks [] ∧ ∀ (j : Nat) t, fn.params[j]? = some t → Tryd.pinned.checked.prog.wantsStandIn t = false := by
 obtain rfl : f = 6 := Option.some.inj ((show Tryd.prog.funcNamed "hygrometer/hyglaw25.MergeLeast" = some 6 by kernel_rfl).symm.trans hf) |>.symm
 obtain rfl : fn = Tryd.f6 := (Option.some.inj (Tryd.func6.symm.trans hfn)).symm
 refine ⟨by kernel_rfl, fun j t ht => ?_⟩
 have hall : Tryd.f6.params.toList.all (fun t => Tryd.prog.wantsStandIn t == false) = true := by kernel_rfl
 have := List.all_eq_true.1 hall t (by simpa using Array.mem_of_getElem? ht)
 exact eq_of_beq this
theorem proved : Rows.MergeLeastCardSaid :=
 Claim7.holds_tied_plain_at .later [] _ _ _ _ over (fun _ h => by cases h) (by kernel_rfl) (fun _ h => by cases h) mergeLeast_row_tie rfl ⟨rfl, rfl⟩ (by kernel_rfl) rfl looks (by kernel_rfl)
end Go.Proofs.YtcblkndiclkacaaDoor.mergeLeast
