/-
  hyglaw25.MergeTotals: for every input the law returns true, and the input stays as it was.
-/
import Derived.Test.YtoggpnfeioaidaaDoorMxTots
import Derived.Test.YtoggpnfeioaidaaDoorMxDoor
import Derived.Test.YtoggpnfeioaidaaDoorXpOpen
set_option maxRecDepth 1000000
set_option maxHeartbeats 16000000
namespace Go.Proofs.YtoggpnfeioaidaaDoor.mergeTotals
open Go.ChangeShapes Go.WideShapes Go.ChangeAt Go.RowKit
open Go.ChangeMaps (open_string shut_string)
theorem reads (os : Os) {H : Type} (enc : TypeId × Value → H) : ∃ places, DataW.whole enc Tryd.prog ((twoWorld os).forCall (fun _ _ => 0) ⟨#[], #[.agg #[.slice none 0 0, .int .u64 0, .int .u64 0, .int .u64 0, .bool false, .int .u64 0, .bool false, .int .u64 0, .bool false, .int .u64 0, .int .i32 0, .int .u64 0, .bool false, .int .i32 0, .slice none 0 0, .string .empty, .bool false, .int .i32 0, .slice none 0 0, .string .empty, .slice none 0 0, .int .u32 0, .int .u64 0, .string .empty], .agg #[.slice none 0 0, .int .u64 0, .int .u64 0, .int .u64 0, .bool false, .int .u64 0, .bool false, .int .u64 0, .bool false, .int .u64 0, .int .i32 0, .int .u64 0, .bool false, .int .i32 0, .slice none 0 0, .string .empty, .bool false, .int .i32 0, .slice none 0 0, .string .empty, .slice none 0 0, .int .u32 0, .int .u64 0, .string .empty], .int .i64 0, .int .i64 0], []⟩).memory Tryd.f3.params.toList Rows.mergeTotalsSpec.vars false (#[.agg #[.slice none 0 0, .int .u64 0, .int .u64 0, .int .u64 0, .bool false, .int .u64 0, .bool false, .int .u64 0, .bool false, .int .u64 0, .int .i32 0, .int .u64 0, .bool false, .int .i32 0, .slice none 0 0, .string .empty, .bool false, .int .i32 0, .slice none 0 0, .string .empty, .slice none 0 0, .int .u32 0, .int .u64 0, .string .empty], .agg #[.slice none 0 0, .int .u64 0, .int .u64 0, .int .u64 0, .bool false, .int .u64 0, .bool false, .int .u64 0, .bool false, .int .u64 0, .int .i32 0, .int .u64 0, .bool false, .int .i32 0, .slice none 0 0, .string .empty, .bool false, .int .i32 0, .slice none 0 0, .string .empty, .slice none 0 0, .int .u32 0, .int .u64 0, .string .empty], .int .i64 0, .int .i64 0] : Array Value).toList 8 = some ([.agg [.nil, .lit (.int .u64 0), .lit (.int .u64 0), .lit (.int .u64 0), .agg [.lit (.bool false), .lit (.int .u64 0)], .agg [.lit (.bool false), .lit (.int .u64 0)], .agg [.lit (.bool false), .lit (.int .u64 0)], .lit (.int .i32 0), .lit (.int .u64 0), .lit (.bool false), .agg [.lit (.int .i32 0), .nil, .lit (.string [])], .lit (.bool false), .agg [.lit (.int .i32 0), .nil, .lit (.string [])], .nil, .lit (.int .u32 0), .lit (.int .u64 0), .lit (.string [])], .agg [.nil, .lit (.int .u64 0), .lit (.int .u64 0), .lit (.int .u64 0), .agg [.lit (.bool false), .lit (.int .u64 0)], .agg [.lit (.bool false), .lit (.int .u64 0)], .agg [.lit (.bool false), .lit (.int .u64 0)], .lit (.int .i32 0), .lit (.int .u64 0), .lit (.bool false), .agg [.lit (.int .i32 0), .nil, .lit (.string [])], .lit (.bool false), .agg [.lit (.int .i32 0), .nil, .lit (.string [])], .nil, .lit (.int .u32 0), .lit (.int .u64 0), .lit (.string [])], .lit (.int .i64 0), .lit (.int .i64 0)], [], places) :=
 ⟨[], by kernel_rfl⟩
theorem lifted (os : Os) (started : os.Started) (H : Type) (enc : TypeId × Value → H) (F : Stop.Interp) :
  ReturnsInHanded {} Tryd.checked os 3 .any ((OpenSpec.ofChange Rows.mergeTotalsSpec).preRow enc Tryd.prog Tryd.f3 Rows.mergeTotalsRow.domain false Rows.mergeTotalsRow.laid) (((OpenSpec.ofChange Rows.mergeTotalsSpec).at F).post enc Tryd.prog Tryd.f3 false true false false) := by
 obtain ⟨places, hx⟩ := reads os enc
 refine returnsInHanded_of_row (C := Tryd.checked) (s := OpenSpec.ofChange Rows.mergeTotalsSpec) Tryd.own started (by kernel_rfl) Tryd.func3
  (witness_row_at (enc := enc) (C := Tryd.checked) false (twoWorld os) #[.agg #[.slice none 0 0, .int .u64 0, .int .u64 0, .int .u64 0, .bool false, .int .u64 0, .bool false, .int .u64 0, .bool false, .int .u64 0, .int .i32 0, .int .u64 0, .bool false, .int .i32 0, .slice none 0 0, .string .empty, .bool false, .int .i32 0, .slice none 0 0, .string .empty, .slice none 0 0, .int .u32 0, .int .u64 0, .string .empty], .agg #[.slice none 0 0, .int .u64 0, .int .u64 0, .int .u64 0, .bool false, .int .u64 0, .bool false, .int .u64 0, .bool false, .int .u64 0, .int .i32 0, .int .u64 0, .bool false, .int .i32 0, .slice none 0 0, .string .empty, .bool false, .int .i32 0, .slice none 0 0, .string .empty, .slice none 0 0, .int .u32 0, .int .u64 0, .string .empty], .int .i64 0, .int .i64 0] rfl (by kernel_rfl) (by kernel_rfl) (by kernel_rfl)
   (OpenSpec.preRow_of_cond 8 hx (by kernel_rfl) (fun k hk => by cases hk) (by kernel_rfl) (twoWorld_met os _))) ?_
 intro W base args ds gs before hval0 hW _ _ _ hL _ _
 obtain ⟨hg, ew, hew⟩ := glob_of_two hL
 clear hL
 have hval : ∀ (j : Nat) t v, Tryd.f3.params[j]? = some t → args[j]? = some v → Value.okWide Tryd.prog W .any base t v := hval0
 have hW' := hW
 obtain ⟨p, q, hA0, hV, rfl, hfz, hnd⟩ := hW
 have hA : DataW.TrodAll enc Tryd.prog W 0 (fun _ => true) true Tryd.f3.params.toList args.toList ds p := hA0
 rw [Tryd.params3] at hA hval
 obtain ⟨v0, vs0, d0, ds0, p0, q0, hargs, rfl, rfl, h0, r0⟩ := trodAll_cons hA
 obtain ⟨v1, vs1, d1, ds1, p1, q1, rfl, rfl, rfl, h1, r1⟩ := trodAll_cons r0
 obtain ⟨v2, vs2, d2, ds2, p2, q2, rfl, rfl, rfl, h2, r2⟩ := trodAll_cons r1
 obtain ⟨v3, vs3, d3, ds3, p3, q3, rfl, rfl, rfl, h3, r3⟩ := trodAll_cons r2
 obtain ⟨rfl, rfl, rfl⟩ := trodAll_nil r3
 obtain rfl : args = #[v0, v1, v2, v3] := by cases args; simp_all
 have hpl : ∀ x ∈ p0 ++ (p1 ++ (p2 ++ (p3 ++ []))), x.block < W.heap.size := fun x hx => by simpa using hW'.lt x (List.mem_append_left _ hx)
 obtain ⟨x0, c0, rfl, hx0, ha0⟩ := open_xp (hval 0 32 v0 rfl rfl) h0
 obtain ⟨x1, c1, rfl, hx1, ha1⟩ := open_xp (hval 1 32 v1 rfl rfl) h1
 obtain ⟨a2, rfl, rfl, rfl, w2⟩ := open_int Tryd.underlying3 (hval 2 3 v2 rfl rfl) h2
 have b2 : -9223372036854775808 ≤ a2 ∧ a2 ≤ 9223372036854775807 := by simp [Lit.wf, IntKind.min, IntKind.max, IntKind.signed, IntKind.bits] at w2; omega
 obtain ⟨a3, rfl, rfl, rfl, w3⟩ := open_int Tryd.underlying3 (hval 3 3 v3 rfl rfl) h3
 have b3 : -9223372036854775808 ≤ a3 ∧ a3 ≤ 9223372036854775807 := by simp [Lit.wf, IntKind.min, IntKind.max, IntKind.signed, IntKind.bits] at w3; omega
 refine Calls.mono ?_ (fun e W' (h : e = .returned (.bool true) ∧ Below W.heap.size W W') => ⟨_, h.1, law_post (by kernel_rfl) (by kernel_rfl) rfl Tryd.underlying4 rfl hW' (fun ds hd => by match ds, hd with | [_, _, _, _], _ => rfl) h.2⟩)
 obtain ⟨⟨l1, ⟨aa1, ⟨t1, ⟨k1, ⟨⟨bp1, vp1⟩, ⟨sc1, ⟨zc1, ⟨⟨gp1, ⟨po1, pc1⟩, pu1⟩, ⟨⟨gn1, ⟨no1, nc1⟩, nu1⟩, ⟨f1, ⟨es1, ⟨⟨bm1, vm1⟩, ⟨⟨bg1, vg1⟩, th1⟩⟩⟩⟩⟩⟩⟩⟩⟩⟩⟩⟩⟩, u1⟩ := x0
 obtain ⟨lo1, lc1, pco1, pcc1, nco1, ncc1, eo1, ec1, rfl, -⟩ := id hx0
 obtain ⟨⟨l2, ⟨aa2, ⟨t2, ⟨k2, ⟨⟨bp2, vp2⟩, ⟨sc2, ⟨zc2, ⟨⟨gp2, ⟨po2, pc2⟩, pu2⟩, ⟨⟨gn2, ⟨no2, nc2⟩, nu2⟩, ⟨f2, ⟨es2, ⟨⟨bm2, vm2⟩, ⟨⟨bg2, vg2⟩, th2⟩⟩⟩⟩⟩⟩⟩⟩⟩⟩⟩⟩⟩, u2⟩ := x1
 obtain ⟨lo2, lc2, pco2, pcc2, nco2, ncc2, eo2, ec2, rfl, -⟩ := id hx1
 exact totals_any l1 aa1 t1 k1 bp1 vp1 bm1 vm1 bg1 vg1 sc1 zc1 gp1 po1 pc1 pu1 gn1 no1 nc1 nu1 es1 f1 th1 u1 lo1 lc1 pco1 pcc1 nco1 ncc1 eo1 ec1 l2 aa2 t2 k2 bp2 vp2 bm2 vm2 bg2 vg2 sc2 zc2 gp2 po2 pc2 pu2 gn2 no2 nc2 nu2 es2 f2 th2 u2 lo2 lc2 pco2 pcc2 nco2 ncc2 eo2 ec2 a2 a3 ew _ _ W (Lib.hid hg) (Lib.hid hew) b2 (Lib.hid ha0) (Lib.hid ha1) (Lib.hid hx0) (Lib.hid hx1)
theorem over : Rows.MergeTotalsSaid :=
 OpenClaim.holds_of_cond 3 Tryd.f3 rfl rfl rfl rfl rfl rfl rfl ⟨rfl, rfl, rfl, rfl, rfl⟩ rfl rfl rfl rfl rfl (by kernel_rfl) Tryd.func3 (by kernel_rfl)
  (of_decide_eq_true (by kernel_rfl)) (by unfold Func.isWrapper; first | (rw [if_pos (by decide +kernel)]; kernel_rfl) | (rw [if_neg (by decide +kernel)]; exact ⟨rfl, rfl⟩))
  (fun os started H enc _ F => by rw [OpenClaim.pre_eq_preRow]; exact lifted os started H enc F)
theorem looks (f : FuncId) (fn : Func) (hf : Tryd.pinned.checked.prog.funcNamed "hygrometer/hyglaw25.MergeTotals" = some f) (hfn : Tryd.pinned.checked.prog.funcs[f]? = some fn) :
  true = Tryd.pinned.checked.prog.looks [] ∧ ∀ (j : Nat) t, fn.params[j]? = some t → Tryd.pinned.checked.prog.wantsStandIn t = false := by
 obtain rfl : f = 3 := Option.some.inj ((show Tryd.prog.funcNamed "hygrometer/hyglaw25.MergeTotals" = some 3 by kernel_rfl).symm.trans hf) |>.symm
 obtain rfl : fn = Tryd.f3 := (Option.some.inj (Tryd.func3.symm.trans hfn)).symm
 refine ⟨by kernel_rfl, fun j t ht => ?_⟩
 have hall : Tryd.f3.params.toList.all (fun t => Tryd.prog.wantsStandIn t == false) = true := by kernel_rfl
 have := List.all_eq_true.1 hall t (by simpa using Array.mem_of_getElem? ht)
 exact eq_of_beq this
theorem proved : Rows.MergeTotalsCardSaid :=
 Claim7.holds_tied_plain_at .later [] _ _ _ _ over (fun _ h => by cases h) (by kernel_rfl) (fun _ h => by cases h) mergeTotals_row_tie rfl ⟨rfl, rfl⟩ (by kernel_rfl) rfl looks (by kernel_rfl)
end Go.Proofs.YtoggpnfeioaidaaDoor.mergeTotals
