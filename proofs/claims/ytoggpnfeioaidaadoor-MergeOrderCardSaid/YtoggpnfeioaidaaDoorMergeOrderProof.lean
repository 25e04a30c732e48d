/-
  hyglaw25.MergeOrder: for every input the law returns true, and the input stays as it was.
-/
import Derived.Test.YtoggpnfeioaidaaDoorMgOrder
import Derived.Test.YtoggpnfeioaidaaDoorMxDoor
import Derived.Test.YtoggpnfeioaidaaDoorXpOpen
set_option maxRecDepth 1000000
set_option maxHeartbeats 16000000
namespace Go.Proofs.YtoggpnfeioaidaaDoor.mergeOrder
open Go.ChangeShapes Go.WideShapes Go.ChangeAt Go.RowKit
open Go.ChangeMaps (open_string shut_string)
theorem reads (os : Os) {H : Type} (enc : TypeId × Value → H) : ∃ places, DataW.whole enc Tryd.prog ((twoWorld os).forCall (fun _ _ => 0) ⟨#[], #[.agg #[.slice none 0 0, .int .u64 0, .int .u64 0, .int .u64 0, .bool false, .int .u64 0, .bool false, .int .u64 0, .bool false, .int .u64 0, .slice none 0 0, .slice none 0 0, .slice none 0 0, .int .u32 0, .string .empty], .agg #[.slice none 0 0, .int .u64 0, .int .u64 0, .int .u64 0, .bool false, .int .u64 0, .bool false, .int .u64 0, .bool false, .int .u64 0, .slice none 0 0, .slice none 0 0, .slice none 0 0, .int .u32 0, .string .empty], .agg #[.slice none 0 0, .int .u64 0, .int .u64 0, .int .u64 0, .bool false, .int .u64 0, .bool false, .int .u64 0, .bool false, .int .u64 0, .slice none 0 0, .slice none 0 0, .slice none 0 0, .int .u32 0, .string .empty], .agg #[.slice none 0 0, .int .u64 0, .int .u64 0, .int .u64 0, .bool false, .int .u64 0, .bool false, .int .u64 0, .bool false, .int .u64 0, .int .i32 0, .int .u64 0, .bool false, .int .i32 0, .slice none 0 0, .string .empty, .bool false, .int .i32 0, .slice none 0 0, .string .empty, .slice none 0 0, .int .u32 0, .int .u64 0, .string .empty], .agg #[.slice none 0 0, .int .u64 0, .int .u64 0, .int .u64 0, .bool false, .int .u64 0, .bool false, .int .u64 0, .bool false, .int .u64 0, .int .i32 0, .int .u64 0, .bool false, .int .i32 0, .slice none 0 0, .string .empty, .bool false, .int .i32 0, .slice none 0 0, .string .empty, .slice none 0 0, .int .u32 0, .int .u64 0, .string .empty], .int .i64 0], []⟩).memory Tryd.f4.params.toList Rows.mergeOrderSpec.vars false (#[.agg #[.slice none 0 0, .int .u64 0, .int .u64 0, .int .u64 0, .bool false, .int .u64 0, .bool false, .int .u64 0, .bool false, .int .u64 0, .slice none 0 0, .slice none 0 0, .slice none 0 0, .int .u32 0, .string .empty], .agg #[.slice none 0 0, .int .u64 0, .int .u64 0, .int .u64 0, .bool false, .int .u64 0, .bool false, .int .u64 0, .bool false, .int .u64 0, .slice none 0 0, .slice none 0 0, .slice none 0 0, .int .u32 0, .string .empty], .agg #[.slice none 0 0, .int .u64 0, .int .u64 0, .int .u64 0, .bool false, .int .u64 0, .bool false, .int .u64 0, .bool false, .int .u64 0, .slice none 0 0, .slice none 0 0, .slice none 0 0, .int .u32 0, .string .empty], .agg #[.slice none 0 0, .int .u64 0, .int .u64 0, .int .u64 0, .bool false, .int .u64 0, .bool false, .int .u64 0, .bool false, .int .u64 0, .int .i32 0, .int .u64 0, .bool false, .int .i32 0, .slice none 0 0, .string .empty, .bool false, .int .i32 0, .slice none 0 0, .string .empty, .slice none 0 0, .int .u32 0, .int .u64 0, .string .empty], .agg #[.slice none 0 0, .int .u64 0, .int .u64 0, .int .u64 0, .bool false, .int .u64 0, .bool false, .int .u64 0, .bool false, .int .u64 0, .int .i32 0, .int .u64 0, .bool false, .int .i32 0, .slice none 0 0, .string .empty, .bool false, .int .i32 0, .slice none 0 0, .string .empty, .slice none 0 0, .int .u32 0, .int .u64 0, .string .empty], .int .i64 0] : Array Value).toList 8 = some ([.agg [.nil, .lit (.int .u64 0), .lit (.int .u64 0), .lit (.int .u64 0), .agg [.lit (.bool false), .lit (.int .u64 0)], .agg [.lit (.bool false), .lit (.int .u64 0)], .agg [.lit (.bool false), .lit (.int .u64 0)], .nil, .nil, .nil, .lit (.int .u32 0), .lit (.string [])], .agg [.nil, .lit (.int .u64 0), .lit (.int .u64 0), .lit (.int .u64 0), .agg [.lit (.bool false), .lit (.int .u64 0)], .agg [.lit (.bool false), .lit (.int .u64 0)], .agg [.lit (.bool false), .lit (.int .u64 0)], .nil, .nil, .nil, .lit (.int .u32 0), .lit (.string [])], .agg [.nil, .lit (.int .u64 0), .lit (.int .u64 0), .lit (.int .u64 0), .agg [.lit (.bool false), .lit (.int .u64 0)], .agg [.lit (.bool false), .lit (.int .u64 0)], .agg [.lit (.bool false), .lit (.int .u64 0)], .nil, .nil, .nil, .lit (.int .u32 0), .lit (.string [])], .agg [.nil, .lit (.int .u64 0), .lit (.int .u64 0), .lit (.int .u64 0), .agg [.lit (.bool false), .lit (.int .u64 0)], .agg [.lit (.bool false), .lit (.int .u64 0)], .agg [.lit (.bool false), .lit (.int .u64 0)], .lit (.int .i32 0), .lit (.int .u64 0), .lit (.bool false), .agg [.lit (.int .i32 0), .nil, .lit (.string [])], .lit (.bool false), .agg [.lit (.int .i32 0), .nil, .lit (.string [])], .nil, .lit (.int .u32 0), .lit (.int .u64 0), .lit (.string [])], .agg [.nil, .lit (.int .u64 0), .lit (.int .u64 0), .lit (.int .u64 0), .agg [.lit (.bool false), .lit (.int .u64 0)], .agg [.lit (.bool false), .lit (.int .u64 0)], .agg [.lit (.bool false), .lit (.int .u64 0)], .lit (.int .i32 0), .lit (.int .u64 0), .lit (.bool false), .agg [.lit (.int .i32 0), .nil, .lit (.string [])], .lit (.bool false), .agg [.lit (.int .i32 0), .nil, .lit (.string [])], .nil, .lit (.int .u32 0), .lit (.int .u64 0), .lit (.string [])], .lit (.int .i64 0)], [], places) :=
 ⟨[], by kernel_rfl⟩
theorem lifted (os : Os) (started : os.Started) (H : Type) (enc : TypeId × Value → H) (F : Stop.Interp) :
  ReturnsInHanded {} Tryd.checked os 4 .any ((OpenSpec.ofChange Rows.mergeOrderSpec).preRow enc Tryd.prog Tryd.f4 Rows.mergeOrderRow.domain false Rows.mergeOrderRow.laid) (((OpenSpec.ofChange Rows.mergeOrderSpec).at F).post enc Tryd.prog Tryd.f4 false true false false) := by
 obtain ⟨places, hx⟩ := reads os enc
 refine returnsInHanded_of_row (C := Tryd.checked) (s := OpenSpec.ofChange Rows.mergeOrderSpec) Tryd.own started (by kernel_rfl) Tryd.func4
  (witness_row_at (enc := enc) (C := Tryd.checked) false (twoWorld os) #[.agg #[.slice none 0 0, .int .u64 0, .int .u64 0, .int .u64 0, .bool false, .int .u64 0, .bool false, .int .u64 0, .bool false, .int .u64 0, .slice none 0 0, .slice none 0 0, .slice none 0 0, .int .u32 0, .string .empty], .agg #[.slice none 0 0, .int .u64 0, .int .u64 0, .int .u64 0, .bool false, .int .u64 0, .bool false, .int .u64 0, .bool false, .int .u64 0, .slice none 0 0, .slice none 0 0, .slice none 0 0, .int .u32 0, .string .empty], .agg #[.slice none 0 0, .int .u64 0, .int .u64 0, .int .u64 0, .bool false, .int .u64 0, .bool false, .int .u64 0, .bool false, .int .u64 0, .slice none 0 0, .slice none 0 0, .slice none 0 0, .int .u32 0, .string .empty], .agg #[.slice none 0 0, .int .u64 0, .int .u64 0, .int .u64 0, .bool false, .int .u64 0, .bool false, .int .u64 0, .bool false, .int .u64 0, .int .i32 0, .int .u64 0, .bool false, .int .i32 0, .slice none 0 0, .string .empty, .bool false, .int .i32 0, .slice none 0 0, .string .empty, .slice none 0 0, .int .u32 0, .int .u64 0, .string .empty], .agg #[.slice none 0 0, .int .u64 0, .int .u64 0, .int .u64 0, .bool false, .int .u64 0, .bool false, .int .u64 0, .bool false, .int .u64 0, .int .i32 0, .int .u64 0, .bool false, .int .i32 0, .slice none 0 0, .string .empty, .bool false, .int .i32 0, .slice none 0 0, .string .empty, .slice none 0 0, .int .u32 0, .int .u64 0, .string .empty], .int .i64 0] rfl (by kernel_rfl) (by kernel_rfl) (by kernel_rfl)
   (OpenSpec.preRow_of_cond 8 hx (by kernel_rfl) (fun k hk => by cases hk) (by kernel_rfl) (twoWorld_met os _))) ?_
 intro W base args ds gs before hval0 hW _ _ _ hL _ _
 obtain ⟨hg, ew, hew⟩ := glob_of_two hL
 clear hL
 have hval : ∀ (j : Nat) t v, Tryd.f4.params[j]? = some t → args[j]? = some v → Value.okWide Tryd.prog W .any base t v := hval0
 have hW' := hW
 obtain ⟨p, q, hA0, hV, rfl, hfz, hnd⟩ := hW
 have hA : DataW.TrodAll enc Tryd.prog W 0 (fun _ => true) true Tryd.f4.params.toList args.toList ds p := hA0
 rw [Tryd.params4] at hA hval
 obtain ⟨v0, vs0, d0, ds0, p0, q0, hargs, rfl, rfl, h0, r0⟩ := trodAll_cons hA
 obtain ⟨v1, vs1, d1, ds1, p1, q1, rfl, rfl, rfl, h1, r1⟩ := trodAll_cons r0
 obtain ⟨v2, vs2, d2, ds2, p2, q2, rfl, rfl, rfl, h2, r2⟩ := trodAll_cons r1
 obtain ⟨v3, vs3, d3, ds3, p3, q3, rfl, rfl, rfl, h3, r3⟩ := trodAll_cons r2
 obtain ⟨v4, vs4, d4, ds4, p4, q4, rfl, rfl, rfl, h4, r4⟩ := trodAll_cons r3
 obtain ⟨v5, vs5, d5, ds5, p5, q5, rfl, rfl, rfl, h5, r5⟩ := trodAll_cons r4
 obtain ⟨rfl, rfl, rfl⟩ := trodAll_nil r5
 obtain rfl : args = #[v0, v1, v2, v3, v4, v5] := by cases args; simp_all
 have hpl : ∀ x ∈ p0 ++ (p1 ++ (p2 ++ (p3 ++ (p4 ++ (p5 ++ []))))), x.block < W.heap.size := fun x hx => by simpa using hW'.lt x (List.mem_append_left _ hx)
 obtain ⟨x0, c0, rfl, hx0, ha0⟩ := open_hi (hval 0 48 v0 rfl rfl) h0
 obtain ⟨x1, c1, rfl, hx1, ha1⟩ := open_hi (hval 1 48 v1 rfl rfl) h1
 obtain ⟨x2, c2, rfl, hx2, ha2⟩ := open_hi (hval 2 48 v2 rfl rfl) h2
 obtain ⟨x3, c3, rfl, hx3, ha3⟩ := open_xp (hval 3 32 v3 rfl rfl) h3
 obtain ⟨x4, c4, rfl, hx4, ha4⟩ := open_xp (hval 4 32 v4 rfl rfl) h4
 obtain ⟨a5, rfl, rfl, rfl, w5⟩ := open_int Tryd.underlying3 (hval 5 3 v5 rfl rfl) h5
 have b5 : -9223372036854775808 ≤ a5 ∧ a5 ≤ 9223372036854775807 := by simp [Lit.wf, IntKind.min, IntKind.max, IntKind.signed, IntKind.bits] at w5; omega
 refine Calls.mono ?_ (fun e W' (h : e = .returned (.bool true) ∧ Below W.heap.size W W') => ⟨_, h.1, law_post (by kernel_rfl) (by kernel_rfl) rfl Tryd.underlying4 rfl hW' (fun ds hd => by match ds, hd with | [_, _, _, _, _, _], _ => rfl) h.2⟩)
 obtain ⟨MST, hmst⟩ : ∃ x, x = a5 := ⟨_, rfl⟩
 subst hmst
 obtain ⟨⟨a1, ⟨t1, ⟨k1, ⟨⟨ph1, pn1⟩, ⟨nc1, ⟨nb1, ⟨es1, ⟨l1, ⟨f1, ⟨⟨mh1, mn1⟩, ⟨gh1, gn1⟩⟩⟩⟩⟩⟩⟩⟩⟩⟩⟩, u1⟩ := x0
 obtain ⟨lo1, lc1, nco1, ncc1, nbo1, nbc1, eo1, ec1, rfl, -⟩ := id hx0
 obtain ⟨⟨a2, ⟨t2, ⟨k2, ⟨⟨ph2, pn2⟩, ⟨nc2, ⟨nb2, ⟨es2, ⟨l2, ⟨f2, ⟨⟨mh2, mn2⟩, ⟨gh2, gn2⟩⟩⟩⟩⟩⟩⟩⟩⟩⟩⟩, u2⟩ := x1
 obtain ⟨lo2, lc2, nco2, ncc2, nbo2, nbc2, eo2, ec2, rfl, -⟩ := id hx1
 obtain ⟨⟨a3, ⟨t3, ⟨k3, ⟨⟨ph3, pn3⟩, ⟨nc3, ⟨nb3, ⟨es3, ⟨l3, ⟨f3, ⟨⟨mh3, mn3⟩, ⟨gh3, gn3⟩⟩⟩⟩⟩⟩⟩⟩⟩⟩⟩, u3⟩ := x2
 obtain ⟨lo3, lc3, nco3, ncc3, nbo3, nbc3, eo3, ec3, rfl, -⟩ := id hx2
 obtain ⟨⟨l4, ⟨a4, ⟨t4, ⟨k4, ⟨⟨bp4, vp4⟩, ⟨sc4, ⟨zc4, ⟨⟨gp4, ⟨po4, pc4⟩, pu4⟩, ⟨⟨gn4, ⟨no4, nc4⟩, nu4⟩, ⟨f4, ⟨es4, ⟨⟨bm4, vm4⟩, ⟨⟨bg4, vg4⟩, th4⟩⟩⟩⟩⟩⟩⟩⟩⟩⟩⟩⟩⟩, u4⟩ := x3
 obtain ⟨lo4, lc4, pco4, pcc4, nco4, ncc4, eo4, ec4, rfl, -⟩ := id hx3
 obtain ⟨⟨l5, ⟨a5, ⟨t5, ⟨k5, ⟨⟨bp5, vp5⟩, ⟨sc5, ⟨zc5, ⟨⟨gp5, ⟨po5, pc5⟩, pu5⟩, ⟨⟨gn5, ⟨no5, nc5⟩, nu5⟩, ⟨f5, ⟨es5, ⟨⟨bm5, vm5⟩, ⟨⟨bg5, vg5⟩, th5⟩⟩⟩⟩⟩⟩⟩⟩⟩⟩⟩⟩⟩, u5⟩ := x4
 obtain ⟨lo5, lc5, pco5, pcc5, nco5, ncc5, eo5, ec5, rfl, -⟩ := id hx4
 exact order_any a1 t1 k1 ph1 pn1 nc1 nb1 es1 l1 f1 mh1 mn1 gh1 gn1 u1 lo1 lc1 nco1 ncc1 nbo1 nbc1 eo1 ec1 a2 t2 k2 ph2 pn2 nc2 nb2 es2 l2 f2 mh2 mn2 gh2 gn2 u2 lo2 lc2 nco2 ncc2 nbo2 nbc2 eo2 ec2 a3 t3 k3 ph3 pn3 nc3 nb3 es3 l3 f3 mh3 mn3 gh3 gn3 u3 lo3 lc3 nco3 ncc3 nbo3 nbc3 eo3 ec3 l4 a4 t4 k4 bp4 vp4 bm4 vm4 bg4 vg4 sc4 zc4 gp4 po4 pc4 pu4 gn4 no4 nc4 nu4 es4 f4 th4 u4 lo4 lc4 pco4 pcc4 nco4 ncc4 eo4 ec4 l5 a5 t5 k5 bp5 vp5 bm5 vm5 bg5 vg5 sc5 zc5 gp5 po5 pc5 pu5 gn5 no5 nc5 nu5 es5 f5 th5 u5 lo5 lc5 pco5 pcc5 nco5 ncc5 eo5 ec5 MST ew _ _ _ _ _ W (Lib.hid hg) (Lib.hid hew) (Lib.hid ha0) (Lib.hid ha1) (Lib.hid ha2) (Lib.hid ha3) (Lib.hid ha4) (Lib.hid hx0) (Lib.hid hx1) (Lib.hid hx2) (Lib.hid hx3) (Lib.hid hx4)
theorem over : Rows.MergeOrderSaid :=
 OpenClaim.holds_of_cond 4 Tryd.f4 rfl rfl rfl rfl rfl rfl rfl ⟨rfl, rfl, rfl, rfl, rfl⟩ rfl rfl rfl rfl rfl (by kernel_rfl) Tryd.func4 (by kernel_rfl)
  (of_decide_eq_true (by kernel_rfl)) (by unfold Func.isWrapper; first | (rw [if_pos (by decide +kernel)]; kernel_rfl) | (rw [if_neg (by decide +kernel)]; exact ⟨rfl, rfl⟩))
  (fun os started H enc _ F => by rw [OpenClaim.pre_eq_preRow]; exact lifted os started H enc F)
theorem looks (f : FuncId) (fn : Func) (hf : Tryd.pinned.checked.prog.funcNamed "hygrometer/hyglaw25.MergeOrder" = some f) (hfn : Tryd.pinned.checked.prog.funcs[f]? = some fn) :
  true = Tryd.pinned.checked.prog.looks [] ∧ ∀ (j : Nat) t, fn.params[j]? = some t → Tryd.pinned.checked.prog.wantsStandIn t = false := by
 obtain rfl : f = 4 := Option.some.inj ((show Tryd.prog.funcNamed "hygrometer/hyglaw25.MergeOrder" = some 4 by kernel_rfl).symm.trans hf) |>.symm
 obtain rfl : fn = Tryd.f4 := (Option.some.inj (Tryd.func4.symm.trans hfn)).symm
 refine ⟨by kernel_rfl, fun j t ht => ?_⟩
 have hall : Tryd.f4.params.toList.all (fun t => Tryd.prog.wantsStandIn t == false) = true := by kernel_rfl
 have := List.all_eq_true.1 hall t (by simpa using Array.mem_of_getElem? ht)
 exact eq_of_beq this
theorem proved : Rows.MergeOrderCardSaid :=
 Claim7.holds_tied_plain_at .later [] _ _ _ _ over (fun _ h => by cases h) (by kernel_rfl) (fun _ h => by cases h) mergeOrder_row_tie rfl ⟨rfl, rfl⟩ (by kernel_rfl) rfl looks (by kernel_rfl)
end Go.Proofs.YtoggpnfeioaidaaDoor.mergeOrder
