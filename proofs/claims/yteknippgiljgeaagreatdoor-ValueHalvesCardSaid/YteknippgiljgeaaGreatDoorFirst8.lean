/-
 hyglaw8.FewValue, FewKeys.
-/
/-
 Arguments that are values or attributes: opened.
-/
/-
 hyglaw8.first.
-/
import Derived.Test.YteknippgiljgeaaGreatDoorValRoom
import Derived.Deep.Strs
import Derived.Deep.SlicePairs
import Derived.Test.YteknippgiljgeaaGreatDoorValKey
import Derived.Test.YteknippgiljgeaaGreatDoorVal
import Derived.Test.YteknippgiljgeaaGreatDoorMsgWrite
import Derived.Test.YteknippgiljgeaaGreatDoorWireP
import Derived.Test.YteknippgiljgeaaGreatDoorDoor
namespace Go.Proofs.YteknippgiljgeaaGreatDoor
open Go.RowKit

def FewPost (n : Nat) (w : World) (e : Ending) (w' : World) : Prop := Below w.heap.size w w' ∧ ∃ b : Bool, e = .returned (.bool b) ∧ (b = true → n ≤ 8000)
set_option maxRecDepth 100000 in
set_option maxHeartbeats 2000000 in
theorem fewv_any (x : Val) (ca : List Value) (P : Nat → Prop) (w : World) (hl : vlim x) (hf : vfit x) (h : VRel w P x ca) : Calls Tryz.prog 18 #[.agg ca.toArray] w (FewPost (vw x) w) := by
 have HR := Lib.hid (fun w' (hb : Below w.heap.size w w') => roomv_any x ca P w' 60 8000 hl hf (h.below hb) (by omega) (by omega))
 obtain ⟨k1, S1, b1, n1, l1, ln1, lc1, m1, mn1, mc1, I1, U1, rfl⟩ := h.form
 have HB0 : Hid (Below w.heap.size w (w.alloc (.cells #[.int .i64 k1, .string S1, .bool b1, .int .u64 n1, .slice l1 ln1 lc1, .slice m1 mn1 mc1, .string I1, .string U1] 27))) := Lib.hid (below_new _ _)
 clear hl hf h
 go_enter Tryz.func18, Tryz.ntmps18
 go_wp2_with fail
 refine (HR.out _ HB0.out).mono ?_; intro e w2 hpost
 obtain ⟨hb2, r, rfl, HO⟩ := hpost
 have HB2 := Lib.hid (below_step HB0.out hb2)
 clear hb2
 obtain ⟨bb, hbb⟩ : ∃ bb, decide (r ≥ 0) = bb := ⟨_, rfl⟩
 have HBB := Lib.hid hbb
 go_wp2_with fail
 go_ret
 exact ⟨HB2.out, bb, rfl, fun h => by have h2 := HBB.out; rw [h, decide_eq_true_iff] at h2; have h3 := HO.out; unfold RoomOk at h3; omega⟩
set_option maxRecDepth 100000 in
set_option maxHeartbeats 2000000 in
theorem fewk_any (l : List KV) (lo : Option Addr) (lc : Nat) (P : Nat → Prop) (w : World) (hl0 : l.length ≤ 9223372036854775807) (hl : kslim l) (hf : ksfit l) (h : KRels w P l lo 0) : Calls Tryz.prog 19 #[.slice lo l.length lc] w (FewPost (ksw l) w) := by
 have HR := Lib.hid (roomks_any l lo lc P w 60 8000 hl0 hl hf h (by omega) (by omega))
 clear hl hf h hl0
 go_enter Tryz.func19, Tryz.ntmps19
 go_wp2_with fail
 refine HR.out.mono ?_; intro e w2 hpost
 obtain ⟨hb2, r, rfl, HO⟩ := hpost
 have HB2 := Lib.hid hb2
 clear hb2
 obtain ⟨bb, hbb⟩ : ∃ bb, decide (r ≥ 0) = bb := ⟨_, rfl⟩
 have HBB := Lib.hid hbb
 go_wp2_with fail
 go_ret
 exact ⟨HB2.out, bb, rfl, fun h => by have h2 := HBB.out; rw [h, decide_eq_true_iff] at h2; have h3 := HO.out; unfold RoomOk at h3; omega⟩
end Go.Proofs.YteknippgiljgeaaGreatDoor
namespace Go.Proofs.YteknippgiljgeaaGreatDoor
open Go.RowKit Go.ChangeShapes Go.WideShapes Go.ChangeAt Go.Deep

set_option maxRecDepth 1000000 in
theorem val_shape : ∃ f0 f1 f2 f3 f4 f5 f6 f7 : Field, Tryz.prog.underlying 27 = some (.struct #[f0, f1, f2, f3, f4, f5, f6, f7]) ∧ Tryz.prog.cellsOf 27 = 8 ∧
  (f0.offset = 0 ∧ f1.offset = 1 ∧ f2.offset = 2 ∧ f3.offset = 3 ∧ f4.offset = 4 ∧ f5.offset = 5 ∧ f6.offset = 6 ∧ f7.offset = 7) ∧
  (Tryz.prog.cellsOf f0.type = 1 ∧ Tryz.prog.cellsOf f1.type = 1 ∧ Tryz.prog.cellsOf f2.type = 1 ∧ Tryz.prog.cellsOf f3.type = 1 ∧ Tryz.prog.cellsOf f4.type = 1 ∧ Tryz.prog.cellsOf f5.type = 1 ∧ Tryz.prog.cellsOf f6.type = 1 ∧ Tryz.prog.cellsOf f7.type = 1) ∧
  (Tryz.prog.underlying f0.type = some (.int .i64) ∧ Tryz.prog.underlying f1.type = some .string ∧ Tryz.prog.underlying f2.type = some .bool ∧ Tryz.prog.underlying f3.type = some (.int .u64) ∧ Tryz.prog.underlying f4.type = some (.slice 27) ∧ Tryz.prog.underlying f5.type = some (.slice 35) ∧ Tryz.prog.underlying f6.type = some .string ∧ Tryz.prog.underlying f7.type = some .string) :=
 ⟨_, _, _, _, _, _, _, _, Tryz.underlying27, by kernel_rfl, ⟨by kernel_rfl, by kernel_rfl, by kernel_rfl, by kernel_rfl, by kernel_rfl, by kernel_rfl, by kernel_rfl, by kernel_rfl⟩, ⟨by kernel_rfl, by kernel_rfl, by kernel_rfl, by kernel_rfl, by kernel_rfl, by kernel_rfl, by kernel_rfl, by kernel_rfl⟩, ⟨by kernel_rfl, by kernel_rfl, by kernel_rfl, by kernel_rfl, by kernel_rfl, by kernel_rfl, by kernel_rfl, by kernel_rfl⟩⟩
set_option maxRecDepth 1000000 in
theorem key_shape : ∃ f0 f1 f2 f3 : Field, Tryz.prog.underlying 35 = some (.struct #[f0, f1, f2, f3]) ∧ Tryz.prog.cellsOf 35 = 11 ∧
  (f0.offset = 0 ∧ f1.offset = 1 ∧ f2.offset = 2 ∧ f3.offset = 10) ∧
  (Tryz.prog.cellsOf f0.type = 1 ∧ Tryz.prog.cellsOf f1.type = 1 ∧ Tryz.prog.cellsOf f2.type = 8 ∧ Tryz.prog.cellsOf f3.type = 1) ∧
  (Tryz.prog.underlying f0.type = some .string ∧ Tryz.prog.underlying f1.type = some .bool ∧ f2.type = 27 ∧ Tryz.prog.underlying f3.type = some .string) :=
 ⟨_, _, _, _, Tryz.underlying35, by kernel_rfl, ⟨by kernel_rfl, by kernel_rfl, by kernel_rfl, by kernel_rfl⟩, ⟨by kernel_rfl, by kernel_rfl, by kernel_rfl, by kernel_rfl⟩, ⟨by kernel_rfl, by kernel_rfl, by kernel_rfl, by kernel_rfl⟩⟩
theorem cells_of {w : World} {base c : Nat} {b off : Nat} {cs : List Value} (h : w.cells? base ⟨b, off, none⟩ c = some cs) : Cells w b off cs ∧ cs.length = c := by
 obtain ⟨_, h2, h3⟩ := World.cells?_some h
 refine ⟨fun i hi => ?_, h2⟩
 have := h3 i (by omega)
 have e : (⟨b, off, none⟩ : Addr).add i = ⟨b, off + i, none⟩ := by unfold Addr.add; split <;> simp_all
 rw [e] at this
 rw [this, List.getElem?_eq_getElem hi]
set_option maxRecDepth 1000000 in
theorem slice_tree {α : Type} {H : Type} {enc : TypeId × Value → H} {W : World} {sp : Nat → Bool} {t e : TypeId} {fuel c : Nat} {cs : List Value} {x : DataW H × List MemPlace} (good : α → List Value → Prop) (hc : Tryz.prog.cellsOf e = c) (hpos : 0 < c) (ht : Tryz.prog.underlying t = some (.slice e))
  (hel : ∀ n, n < fuel → ∀ cs x, DataW.trod enc Tryz.prog W 0 sp true n e cs = some x → ∃ a : α, good a cs) (h : DataW.trod enc Tryz.prog W 0 sp true fuel t cs = some x) :
  ∃ (lo : Option Addr) (cap : Nat) (l : List α), cs = [.slice lo l.length cap] ∧ l.length ≤ 9223372036854775807 ∧ (l ≠ [] → ∃ g off, lo = some ⟨g, off, none⟩ ∧ g < W.heap.size ∧ ∀ j (h : j < l.length), ∃ ds, Cells W g (off + c * j) ds ∧ good l[j] ds) := by
 rcases DataW.trod_slice ht h with ⟨h1, _⟩ | ⟨a, len, cap, elems, rest, n, hf, h1, _, _, hlc, hcm, hl, hx, _, _⟩
 ·exact ⟨none, 0, [], h1, by simp, fun h => absurd rfl h⟩
 ·subst hf
  have hcm' : cap ≤ 9223372036854775807 := hcm
  have each : ∀ i, i < len → ∃ y : α, ∃ ds, W.cells? 0 (a.add (i * c)) c = some ds ∧ good y ds := fun i hi => by
   have h2 := hx i hi
   rw [hc] at h2
   rw [List.getElem?_eq_getElem (by omega)] at h2
   cases hw : W.cells? 0 (a.add (i * c)) c with
   | none => rw [hw] at h2; cases h2
   | some ds =>
    rw [hw] at h2
    obtain ⟨y, hy⟩ := hel n (by omega) ds _ h2
    exact ⟨y, ds, rfl, hy⟩
  rcases Nat.eq_zero_or_pos len with e0 | hp
  ·subst e0
   exact ⟨some a, cap, [], h1, by simp, fun h => absurd rfl h⟩
  ·obtain ⟨y0, _⟩ := each 0 hp
   have : Inhabited α := ⟨y0⟩
   obtain ⟨Y, hY⟩ := choose_lt each
   have hll : ((List.range len).map Y).length = len := by simp
   have hspot : ∀ i, i < len → ∀ ds, W.cells? 0 (a.add (i * c)) c = some ds → W.cell? ((a.add (i * c)).add 0) = ds[0]? := fun i _ ds hd => (World.cells?_some hd).2.2 0 hpos
   obtain ⟨b, off, spot⟩ := a
   obtain ⟨ds0, hd0, _⟩ := hY 0 hp
   have hd0l := (World.cells?_some hd0).2.1
   have hcell := hspot 0 hp ds0 hd0
   rw [List.getElem?_eq_getElem (by omega)] at hcell
   have hsp : spot = none := by simpa [Addr.add] using World.cell?_spot hcell
   subst hsp
   have hb : b < W.heap.size := by
    have := World.block_lt_of_cell? W _ hcell
    simpa [Addr.add] using this
   refine ⟨some ⟨b, off, none⟩, cap, (List.range len).map Y, by rw [hll]; exact h1, by rw [hll]; omega, fun _ => ⟨b, off, rfl, hb, fun j hj => ?_⟩⟩
   have hj' : j < len := by simpa using hj
   obtain ⟨ds, hd, hg⟩ := hY j hj'
   have ea : (⟨b, off, none⟩ : Addr).add (j * c) = ⟨b, off + c * j, none⟩ := by unfold Addr.add; split <;> simp_all [Nat.mul_comm]
   rw [ea] at hd
   exact ⟨ds, (cells_of hd).1, by simpa using hg⟩
theorem vrels_of {w : World} {P : Nat → Prop} {g off : Nat} (hg : P g) (hlt : g < w.heap.size) : ∀ (l : List Val) (i : Nat), (∀ j (h : j < l.length), ∃ ds, Cells w g (off + 8 * (i + j)) ds ∧ VRel w P l[j] ds) → VRels w P l (some ⟨g, off, none⟩) i
 | [], _, _ => by rw [VRels]; trivial
 | x :: xs, i, h => by
  rw [VRels]
  obtain ⟨ds, h1, h2⟩ := h 0 (by simp)
  refine ⟨⟨g, off, ds, rfl, hg, hlt, h1, h2⟩, vrels_of hg hlt xs (i + 1) fun j hj => ?_⟩
  obtain ⟨ds, h1, h2⟩ := h (j + 1) (by simpa using hj)
  exact ⟨ds, by rw [show i + 1 + j = i + (j + 1) by omega]; exact h1, h2⟩
theorem krels_of {w : World} {P : Nat → Prop} {g off : Nat} (hg : P g) (hlt : g < w.heap.size) : ∀ (l : List KV) (i : Nat), (∀ j (h : j < l.length), ∃ ds, Cells w g (off + 11 * (i + j)) ds ∧ KRel w P l[j] ds) → KRels w P l (some ⟨g, off, none⟩) i
 | [], _, _ => by rw [KRels]; trivial
 | x :: xs, i, h => by
  rw [KRels]
  obtain ⟨ds, h1, h2⟩ := h 0 (by simp)
  refine ⟨⟨g, off, ds, rfl, hg, hlt, h1, h2⟩, krels_of hg hlt xs (i + 1) fun j hj => ?_⟩
  obtain ⟨ds, h1, h2⟩ := h (j + 1) (by simpa using hj)
  exact ⟨ds, by rw [show i + 1 + j = i + (j + 1) by omega]; exact h1, h2⟩
set_option maxRecDepth 1000000 in
theorem vslice_tree {H : Type} {enc : TypeId × Value → H} {W : World} {sp : Nat → Bool} {t : TypeId} {fuel : Nat} {cs : List Value} {x : DataW H × List MemPlace} (ht : Tryz.prog.underlying t = some (.slice 27))
  (hel : ∀ n, n < fuel → ∀ cs x, DataW.trod enc Tryz.prog W 0 sp true n 27 cs = some x → ∃ a : Val, VRel W (fun k => k < W.heap.size) a cs ∧ vlim a ∧ vfit a) (h : DataW.trod enc Tryz.prog W 0 sp true fuel t cs = some x) :
  ∃ (lo : Option Addr) (cap : Nat) (l : List Val), cs = [.slice lo l.length cap] ∧ l.length ≤ 9223372036854775807 ∧ VRels W (fun k => k < W.heap.size) l lo 0 ∧ vslim l ∧ vsfit l := by
 obtain ⟨lo, cap, l, h1, h2, h3⟩ := slice_tree (fun (a : Val) cs => VRel W (fun k => k < W.heap.size) a cs ∧ vlim a ∧ vfit a) (c := 8) (by kernel_rfl) (by decide) ht hel h
 by_cases h0 : l = []
 ·subst h0
  exact ⟨lo, cap, [], h1, h2, by rw [VRels]; trivial, by rw [vslim]; trivial, by rw [vsfit]; trivial⟩
 ·obtain ⟨g, off, rfl, hg, hh⟩ := h3 h0
  refine ⟨_, cap, l, h1, h2, vrels_of (P := fun k => k < W.heap.size) hg hg l 0 (fun j hj => ?_), vslim_of (fun y hy => ?_), vsfit_of (fun y hy => ?_)⟩
  ·obtain ⟨ds, h4, h5⟩ := hh j hj
   exact ⟨ds, by rw [Nat.zero_add]; exact h4, h5.1⟩
  ·obtain ⟨j, hj, rfl⟩ := List.getElem_of_mem hy
   obtain ⟨ds, h4, h5⟩ := hh j hj
   exact h5.2.1
  ·obtain ⟨j, hj, rfl⟩ := List.getElem_of_mem hy
   obtain ⟨ds, h4, h5⟩ := hh j hj
   exact h5.2.2
set_option maxRecDepth 1000000 in
theorem kslice_tree {H : Type} {enc : TypeId × Value → H} {W : World} {sp : Nat → Bool} {t : TypeId} {fuel : Nat} {cs : List Value} {x : DataW H × List MemPlace} (ht : Tryz.prog.underlying t = some (.slice 35))
  (hel : ∀ n, n < fuel → ∀ cs x, DataW.trod enc Tryz.prog W 0 sp true n 35 cs = some x → ∃ a : KV, KRel W (fun k => k < W.heap.size) a cs ∧ klim a ∧ kfit a) (h : DataW.trod enc Tryz.prog W 0 sp true fuel t cs = some x) :
  ∃ (lo : Option Addr) (cap : Nat) (l : List KV), cs = [.slice lo l.length cap] ∧ l.length ≤ 9223372036854775807 ∧ KRels W (fun k => k < W.heap.size) l lo 0 ∧ kslim l ∧ ksfit l := by
 obtain ⟨lo, cap, l, h1, h2, h3⟩ := slice_tree (fun (a : KV) cs => KRel W (fun k => k < W.heap.size) a cs ∧ klim a ∧ kfit a) (c := 11) (by kernel_rfl) (by decide) ht hel h
 by_cases h0 : l = []
 ·subst h0
  exact ⟨lo, cap, [], h1, h2, by rw [KRels]; trivial, by rw [kslim]; trivial, by rw [ksfit]; trivial⟩
 ·obtain ⟨g, off, rfl, hg, hh⟩ := h3 h0
  refine ⟨_, cap, l, h1, h2, krels_of (P := fun k => k < W.heap.size) hg hg l 0 (fun j hj => ?_), kslim_of (fun y hy => ?_), ksfit_of (fun y hy => ?_)⟩
  ·obtain ⟨ds, h4, h5⟩ := hh j hj
   exact ⟨ds, by rw [Nat.zero_add]; exact h4, h5.1⟩
  ·obtain ⟨j, hj, rfl⟩ := List.getElem_of_mem hy
   obtain ⟨ds, h4, h5⟩ := hh j hj
   exact h5.2.1
  ·obtain ⟨j, hj, rfl⟩ := List.getElem_of_mem hy
   obtain ⟨ds, h4, h5⟩ := hh j hj
   exact h5.2.2
set_option maxRecDepth 1000000 in
theorem tree_all {H : Type} {enc : TypeId × Value → H} {W : World} {sp : Nat → Bool} : ∀ (N n : Nat), n < N → (∀ cs x, DataW.trod enc Tryz.prog W 0 sp true n 27 cs = some x → ∃ a : Val, VRel W (fun k => k < W.heap.size) a cs ∧ vlim a ∧ vfit a) ∧ (∀ cs x, DataW.trod enc Tryz.prog W 0 sp true n 35 cs = some x → ∃ a : KV, KRel W (fun k => k < W.heap.size) a cs ∧ klim a ∧ kfit a)
 | 0, _, h => by omega
 | N + 1, n, hn => by
  have ih := tree_all (enc := enc) (W := W) (sp := sp) N
  refine ⟨fun cs x h => ?_, fun cs x h => ?_⟩
  ·obtain ⟨f0, f1, f2, f3, f4, f5, f6, f7, hT, ce, ⟨o0, o1, o2, o3, o4, o5, o6, o7⟩, ⟨c0, c1, c2, c3, c4, c5, c6, c7⟩, ⟨t0, t1, t2, t3, t4, t5, t6, t7⟩⟩ := val_shape
   obtain ⟨xs, n', hf, _, hl, hlen, hx⟩ := DataW.trod_struct hT h
   rw [ce] at hl
   obtain ⟨V0, V1, V2, V3, V4, V5, V6, V7, rfl⟩ : ∃ V0 V1 V2 V3 V4 V5 V6 V7, cs = [V0, V1, V2, V3, V4, V5, V6, V7] := by
    match cs, hl with
    | [a, b, c, d, e, f, g, h], _ => exact ⟨a, b, c, d, e, f, g, h, rfl⟩
   match xs, hlen with
   | [y0, y1, y2, y3, y4, y5, y6, y7], _ =>
   have g0 := hx 0 f0 rfl
   have g1 := hx 1 f1 rfl
   have g2 := hx 2 f2 rfl
   have g3 := hx 3 f3 rfl
   have g4 := hx 4 f4 rfl
   have g5 := hx 5 f5 rfl
   have g6 := hx 6 f6 rfl
   have g7 := hx 7 f7 rfl
   rw [o0, c0] at g0
   rw [o1, c1] at g1
   rw [o2, c2] at g2
   rw [o3, c3] at g3
   rw [o4, c4] at g4
   rw [o5, c5] at g5
   rw [o6, c6] at g6
   rw [o7, c7] at g7
   obtain ⟨z0, e0, _, w0⟩ := DataW.trod_int t0 g0
   obtain ⟨z1, e1, _, w1⟩ := DataW.trod_string t1 g1
   obtain ⟨z2, e2, _⟩ := DataW.trod_bool t2 g2
   obtain ⟨z3, e3, _, w3⟩ := DataW.trod_int t3 g3
   obtain ⟨lo, lc, l, e4, b4, r4, m4, n4⟩ := vslice_tree t4 (fun q hq => (ih q (by omega)).1) g4
   obtain ⟨mo, mc, m, e5, b5, r5, m5, n5⟩ := kslice_tree t5 (fun q hq => (ih q (by omega)).2) g5
   obtain ⟨z6, e6, _, w6⟩ := DataW.trod_string t6 g6
   obtain ⟨z7, e7, _, w7⟩ := DataW.trod_string t7 g7
   simp only [List.drop_zero, List.drop_succ_cons, List.take_succ_cons, List.take_zero, List.cons.injEq, and_true] at e0 e1 e2 e3 e4 e5 e6 e7
   subst e0 e1 e2 e3 e4 e5 e6 e7
   simp [Lit.wf, IntKind.min, IntKind.max, IntKind.signed, IntKind.bits] at w0 w3
   obtain ⟨k3, rfl⟩ : ∃ k : Nat, z3 = (k : Int) := ⟨z3.toNat, by omega⟩
   have w1' : z1.size ≤ 9223372036854775807 := w1
   have w6' : z6.size ≤ 9223372036854775807 := w6
   have w7' : z7.size ≤ 9223372036854775807 := w7
   refine ⟨.mk z0 z1.data.toList z2 k3 l m z6.data.toList z7.data.toList, ?_, ?_, ?_⟩
   ·rw [VRel]
    exact ⟨lo, lc, mo, mc, by simp [strV], r4, r5⟩
   ·rw [vlim]
    exact ⟨b4, b5, m4, m5⟩
   ·rw [vfit]
    exact ⟨by omega, by omega, by simpa using w1', by simpa using w6', by simpa using w7', n4, n5⟩
  ·obtain ⟨f0, f1, f2, f3, hT, ce, ⟨o0, o1, o2, o3⟩, ⟨c0, c1, c2, c3⟩, ⟨t0, t1, t2, t3⟩⟩ := key_shape
   obtain ⟨xs, n', hf, _, hl, hlen, hx⟩ := DataW.trod_struct hT h
   rw [ce] at hl
   obtain ⟨V0, V1, V2, V3, V4, V5, V6, V7, V8, V9, V10, rfl⟩ : ∃ V0 V1 V2 V3 V4 V5 V6 V7 V8 V9 V10, cs = [V0, V1, V2, V3, V4, V5, V6, V7, V8, V9, V10] := by
    match cs, hl with
    | [a, b, c, d, e, f, g, h, i, j, k], _ => exact ⟨a, b, c, d, e, f, g, h, i, j, k, rfl⟩
   match xs, hlen with
   | [y0, y1, y2, y3], _ =>
   have g0 := hx 0 f0 rfl
   have g1 := hx 1 f1 rfl
   have g2 := hx 2 f2 rfl
   have g3 := hx 3 f3 rfl
   rw [o0, c0] at g0
   rw [o1, c1] at g1
   rw [o2, c2, t2] at g2
   rw [o3, c3] at g3
   obtain ⟨z0, e0, _, w0⟩ := DataW.trod_string t0 g0
   obtain ⟨z1, e1, _⟩ := DataW.trod_bool t1 g1
   obtain ⟨z3, e3, _, w3⟩ := DataW.trod_string t3 g3
   obtain ⟨v, hv, hvl, hvf⟩ := (ih n' (by omega)).1 _ _ g2
   simp only [List.drop_zero, List.drop_succ_cons, List.take_succ_cons, List.take_zero, List.cons.injEq, and_true] at e0 e1 e3 hv
   subst e0 e1 e3
   have w0' : z0.size ≤ 9223372036854775807 := w0
   have w3' : z3.size ≤ 9223372036854775807 := w3
   refine ⟨.mk z0.data.toList z1 v z3.data.toList, ?_, ?_, ?_⟩
   ·rw [KRel]
    exact ⟨_, hv, by simp [strV]⟩
   ·rw [klim]
    exact hvl
   ·rw [kfit]
    exact ⟨by simpa using w0', by simpa using w3', hvf⟩
set_option maxRecDepth 1000000 in
theorem open_Val {H : Type} {enc : TypeId × Value → H} {W : World} {sp : Nat → Bool} {base : Nat} {v : Value} {d : DataW H} {p : List MemPlace} (hv : Value.okWide Tryz.prog W .any base 27 v) (h : DataW.Trod enc Tryz.prog W 0 sp true 27 v d p) :
  ∃ (x : Val) (cs : List Value), v = .agg cs.toArray ∧ VRel W (fun k => k < W.heap.size) x cs ∧ vlim x ∧ vfit x := by
 obtain ⟨cs, rfl, hsz⟩ := okWide_struct Tryz.underlying27 hv
 obtain ⟨fuel, hf⟩ := h
 obtain ⟨x, h1, h2, h3⟩ := (tree_all (fuel + 1) fuel (by omega)).1 _ _ hf
 exact ⟨x, cs.toList, by simp, h1, h2, h3⟩
set_option maxRecDepth 1000000 in
theorem open_KV {H : Type} {enc : TypeId × Value → H} {W : World} {sp : Nat → Bool} {base : Nat} {v : Value} {d : DataW H} {p : List MemPlace} (hv : Value.okWide Tryz.prog W .any base 35 v) (h : DataW.Trod enc Tryz.prog W 0 sp true 35 v d p) :
  ∃ (x : KV) (cs : List Value), v = .agg cs.toArray ∧ KRel W (fun k => k < W.heap.size) x cs ∧ klim x ∧ kfit x := by
 obtain ⟨cs, rfl, hsz⟩ := okWide_struct Tryz.underlying35 hv
 obtain ⟨fuel, hf⟩ := h
 obtain ⟨x, h1, h2, h3⟩ := (tree_all (fuel + 1) fuel (by omega)).2 _ _ hf
 exact ⟨x, cs.toList, by simp, h1, h2, h3⟩
set_option maxRecDepth 1000000 in
theorem open_KVs {H : Type} {enc : TypeId × Value → H} {W : World} {sp : Nat → Bool} {base : Nat} {v : Value} {d : DataW H} {p : List MemPlace} (hv : Value.okWide Tryz.prog W .any base 25 v) (h : DataW.Trod enc Tryz.prog W 0 sp true 25 v d p) :
  ∃ (lo : Option Addr) (cap : Nat) (l : List KV), v = .slice lo l.length cap ∧ l.length ≤ 9223372036854775807 ∧ KRels W (fun k => k < W.heap.size) l lo 0 ∧ kslim l ∧ ksfit l := by
 obtain ⟨ao, len, cap, rfl⟩ := okWide_slice Tryz.underlying25 hv
 obtain ⟨fuel, hf⟩ := h
 obtain ⟨lo, cap', l, h1, h2, h3, h4, h5⟩ := kslice_tree Tryz.underlying25 (fun n hn => (tree_all (enc := enc) (W := W) (sp := sp) (n + 1) n (by omega)).2) hf
 simp only [Value.cells, List.cons.injEq, and_true] at h1
 exact ⟨lo, cap', l, by simpa using h1, h2, h3, h4, h5⟩
end Go.Proofs.YteknippgiljgeaaGreatDoor
namespace Go.Proofs.YteknippgiljgeaaGreatDoor
open Go.RowKit

set_option maxRecDepth 100000 in
set_option maxHeartbeats 2000000 in
theorem plain3 (w : World) : Calls Tryz.prog 88 #[.agg #[.int .i64 3, .string ⟨#[]⟩, .bool false, .int .u64 1, .slice none 0 0, .slice none 0 0, .string ⟨#[]⟩, .string ⟨#[]⟩]] w fun e w' => e = .returned (.bool true) ∧ Below w.heap.size w w' := by
 go_enter Tryz.func88, Tryz.ntmps88
 go_wp2_with fail
 go_ret
 exact ⟨rfl, below_new _ _⟩
set_option maxRecDepth 100000 in
set_option maxHeartbeats 2000000 in
theorem plain8 (w : World) : Calls Tryz.prog 88 #[.agg #[.int .i64 8, .string ⟨#[]⟩, .bool false, .int .u64 0, .slice none 0 0, .slice none 0 0, .string ⟨#[]⟩, .string ⟨#[]⟩]] w fun e w' => e = .returned (.bool false) ∧ Below w.heap.size w w' := by
 go_enter Tryz.func88, Tryz.ntmps88
 go_wp2_with fail
 go_ret
 exact ⟨rfl, below_new _ _⟩
theorem munk_none (d : Int) : munkOk vtk [] d = true := rfl
theorem W8.start {p : Nat} {d : Int} {vo : Value} {ps : List (List UInt8)} {b : Bool} {P : Nat → Prop} {w : World} (h : WrAt p d vo ps b P w) : W8 p d vo ps b w w P := ⟨Upd.refl _ _, P, h, fun _ h => .inl h⟩
theorem W8.below {p : Nat} {d : Int} {vo : Value} {ps : List (List UInt8)} {b : Bool} {P0 : Nat → Prop} {w0 w w' : World} (h : W8 p d vo ps b w0 w P0) (hb : Below w.heap.size w w') : W8 p d vo ps b w0 w' P0 := by
 obtain ⟨hu, P, hw, hp⟩ := h
 exact ⟨hu.trans' (S' := fun _ => False) (Upd.of_new hb) (fun _ _ h => h.elim), P, wr_below hw hb, hp⟩
theorem W8.step {p : Nat} {d' : Int} {vo' : Value} {ps' : List (List UInt8)} {b' : Bool} {P0 P1 : Nat → Prop} {w0 w1 w2 : World} {e : Ending} (hu : Upd P0 w0 w1) (hp : ∀ k, P1 k → P0 k ∨ w0.heap.size ≤ k) (g : WrPost p d' vo' ps' b' P1 w1 e w2) : W8 p d' vo' ps' b' w0 w2 P0 := by
 obtain ⟨_, g2, P2, g3, g4⟩ := g
 refine ⟨hu.trans' g2 (fun k hk h => ?_), P2, g3, fun k hk => ?_⟩
 ·rcases hp k h with h | h
  ·exact h
  ·omega
 ·rcases g4 k hk with h | h
  ·exact hp k h
  ·exact .inr (by have := hu.size; omega)
theorem W8.post {p : Nat} {d : Int} {vo : Value} {ps : List (List UInt8)} {b : Bool} {P0 : Nat → Prop} {w0 w : World} (h : W8 p d vo ps b w0 w P0) : WrPost p d vo ps b P0 w0 (.returned (.tuple #[])) w := ⟨rfl, h.1, h.2⟩
set_option maxRecDepth 1000000 in
set_option maxHeartbeats 4000000 in
theorem put3 (p : Nat) (d : Int) (vo : Value) (P : Nat → Prop) (w : World) (h : Hid (WrAt p d vo [] false P w)) :
  Calls Tryz.prog 64 #[.pointer (some ⟨p, 0, none⟩), .agg #[.int .i64 3, .string ⟨#[]⟩, .bool false, .int .u64 1, .slice none 0 0, .slice none 0 0, .string ⟨#[]⟩, .string ⟨#[]⟩]] w (WrPost p d vo [[24, 1], []] false P w) := by
 have HET := Lib.hid (enters_of Tryz.func40 (by kernel_rfl) rfl)
 have hpw := (wr_lt h.out p (by obtain ⟨_, _, _, _, _, rfl⟩ := h.out; exact .inl rfl)).2
 obtain ⟨W0, hW0⟩ : ∃ W, w.alloc (.cells #[.int .i64 3, .string ⟨#[]⟩, .bool false, .int .u64 1, .slice none 0 0, .slice none 0 0, .string ⟨#[]⟩, .string ⟨#[]⟩] 27) = W := ⟨_, rfl⟩
 obtain ⟨bx, hbx⟩ : ∃ bx, w.heap.size = bx := ⟨_, rfl⟩
 have hb0 : Below w.heap.size w W0 := by rw [← hW0]; exact below_new _ _
 have HX0 : Hid (W0.heap[bx]? = some (.cells #[.int .i64 3, .string ⟨#[]⟩, .bool false, .int .u64 1, .slice none 0 0, .slice none 0 0, .string ⟨#[]⟩, .string ⟨#[]⟩] 27 (0, 0))) := Lib.hid (by rw [← hW0, ← hbx]; exact heap_alloc_new _ _)
 have H0 : Hid (W8 p d vo [] false w W0 P) := Lib.hid ((W8.start h.out).below hb0)
 have HNP : Hid (∀ k, P k → k < bx) := Lib.hid (fun k hk => by rw [← hbx]; exact (wr_lt h.out k hk).2)
 have HW0 := Lib.hid hW0
 have HBX := Lib.hid hbx
 have hxs : bx < W0.heap.size := row_lt HX0.out
 have HXK : Hid (∀ (ps : List (List UInt8)) (b : Bool) (w2 : World), W8 p d vo ps b W0 w2 P → w2.heap[bx]? = some (.cells #[.int .i64 3, .string ⟨#[]⟩, .bool false, .int .u64 1, .slice none 0 0, .slice none 0 0, .string ⟨#[]⟩, .string ⟨#[]⟩] 27 (0, 0))) := Lib.hid (fun ps b w2 hw => (hw.1.block bx hxs (fun hP => by have := HNP.out bx hP; omega)).trans HX0.out)
 have HI0 : Hid (W8 p d vo [] false W0 W0 P) := Lib.hid (W8.start (wr_below h.out hb0))
 have HB0 := Lib.hid hb0
 clear hW0 hbx hb0
 go_enter Tryz.func64, Tryz.ntmps64
 go_wp2_with fail
 rw [HW0.out]
 refine (plain3 W0).mono ?_; rintro e w1 ⟨rfl, hb1⟩
 have H1 := Lib.hid (HI0.out.below hb1)
 clear hb1
 go_wp2_with fail
 obtain ⟨hu1, P1, hw1, hp1⟩ := H1.out
 refine (wask_any p d vo [] false P1 true w1 (Lib.hid hw1)).mono ?_; intro e w2 hpost
 have H2 := Lib.hid (W8.step hu1 hp1 hpost)
 obtain ⟨rfl, _⟩ := hpost
 clear hu1 hw1 hp1
 have hx0 : w2.cell? ⟨bx, 0, none⟩ = some (.int .i64 3) := row_cell (HXK.out _ _ _ H2.out) (j := 0) rfl
 have hx3 : w2.cell? ⟨bx, 3, none⟩ = some (.int .u64 1) := row_cell (HXK.out _ _ _ H2.out) (j := 3) rfl
 have hx7 : w2.cell? ⟨bx, 7, none⟩ = some (.string ⟨#[]⟩) := row_cell (HXK.out _ _ _ H2.out) (j := 7) rfl
 rw [HBX.out]
 go_wp2_with fail
 refine (wvarint_any 3 1 w2 (by omega) (by omega) (by omega)).mono ?_; rintro e w3 ⟨rfl, hb3⟩
 have H3 := Lib.hid (H2.out.below hb3)
 clear hb3 hx0 hx3 hx7
 rw [show (⟨(wrec 3 0 (vput 1)).toArray⟩ : ByteArray) = ⟨#[24, 1]⟩ by decide +kernel]
 go_wp2_with fail
 obtain ⟨hu3, P3, hw3, hp3⟩ := H3.out
 refine (wput_any p d vo [] false P3 [24, 1] w3 (Lib.hid hw3) (by simp) (by simp)).mono ?_; intro e w4 hpost
 have H4 := Lib.hid (W8.step hu3 hp3 hpost)
 obtain ⟨rfl, _⟩ := hpost
 clear hu3 hw3 hp3
 have hx7 : w4.cell? ⟨bx, 7, none⟩ = some (.string ⟨#[]⟩) := row_cell (HXK.out _ _ _ H4.out) (j := 7) rfl
 go_wp2_with fail
 obtain ⟨hu4, P4, hw4, hp4⟩ := H4.out
 refine (wrest_any p d vo [[24, 1]] false P4 ⟨#[]⟩ [] vtk 40 w4 (Lib.hid hw4) (Lib.hid rfl) (by simp) (by simp) (by simp) HET.out (fun r w => vtakes_any r w) (Lib.hid (munk_none d))).mono ?_; intro e w5 hpost
 have H5 := Lib.hid (W8.step hu4 hp4 hpost)
 obtain ⟨rfl, _⟩ := hpost
 clear hu4 hw4 hp4 hx7
 go_wp2_with fail
 go_end0
 exact (W8.step (Upd.of_new HB0.out) (fun k hk => .inl hk) H5.out.post).post
set_option maxRecDepth 1000000 in
set_option maxHeartbeats 4000000 in
theorem put8 (p : Nat) (d : Int) (vo : Value) (P : Nat → Prop) (w : World) (h : Hid (WrAt p d vo [] false P w)) :
  Calls Tryz.prog 64 #[.pointer (some ⟨p, 0, none⟩), .agg #[.int .i64 8, .string ⟨#[]⟩, .bool false, .int .u64 0, .slice none 0 0, .slice none 0 0, .string ⟨#[]⟩, .string ⟨#[]⟩]] w (WrPost p d vo [] true P w) := by
 have HET := Lib.hid (enters_of Tryz.func40 (by kernel_rfl) rfl)
 have hpw := (wr_lt h.out p (by obtain ⟨_, _, _, _, _, rfl⟩ := h.out; exact .inl rfl)).2
 obtain ⟨W0, hW0⟩ : ∃ W, w.alloc (.cells #[.int .i64 8, .string ⟨#[]⟩, .bool false, .int .u64 0, .slice none 0 0, .slice none 0 0, .string ⟨#[]⟩, .string ⟨#[]⟩] 27) = W := ⟨_, rfl⟩
 obtain ⟨bx, hbx⟩ : ∃ bx, w.heap.size = bx := ⟨_, rfl⟩
 have hb0 : Below w.heap.size w W0 := by rw [← hW0]; exact below_new _ _
 have HX0 : Hid (W0.heap[bx]? = some (.cells #[.int .i64 8, .string ⟨#[]⟩, .bool false, .int .u64 0, .slice none 0 0, .slice none 0 0, .string ⟨#[]⟩, .string ⟨#[]⟩] 27 (0, 0))) := Lib.hid (by rw [← hW0, ← hbx]; exact heap_alloc_new _ _)
 have H0 : Hid (W8 p d vo [] false w W0 P) := Lib.hid ((W8.start h.out).below hb0)
 have HNP : Hid (∀ k, P k → k < bx) := Lib.hid (fun k hk => by rw [← hbx]; exact (wr_lt h.out k hk).2)
 have HW0 := Lib.hid hW0
 have HBX := Lib.hid hbx
 have hxs : bx < W0.heap.size := row_lt HX0.out
 have HXK : Hid (∀ (ps : List (List UInt8)) (b : Bool) (w2 : World), W8 p d vo ps b W0 w2 P → w2.heap[bx]? = some (.cells #[.int .i64 8, .string ⟨#[]⟩, .bool false, .int .u64 0, .slice none 0 0, .slice none 0 0, .string ⟨#[]⟩, .string ⟨#[]⟩] 27 (0, 0))) := Lib.hid (fun ps b w2 hw => (hw.1.block bx hxs (fun hP => by have := HNP.out bx hP; omega)).trans HX0.out)
 have HI0 : Hid (W8 p d vo [] false W0 W0 P) := Lib.hid (W8.start (wr_below h.out hb0))
 have HB0 := Lib.hid hb0
 clear hW0 hbx hb0
 go_enter Tryz.func64, Tryz.ntmps64
 go_wp2_with fail
 rw [HW0.out]
 refine (plain8 W0).mono ?_; rintro e w1 ⟨rfl, hb1⟩
 have H1 := Lib.hid (HI0.out.below hb1)
 clear hb1
 go_wp2_with fail
 obtain ⟨hu1, P1, hw1, hp1⟩ := H1.out
 refine (wask_any p d vo [] false P1 false w1 (Lib.hid hw1)).mono ?_; intro e w2 hpost
 have H2 := Lib.hid (W8.step hu1 hp1 hpost)
 obtain ⟨rfl, _⟩ := hpost
 clear hu1 hw1 hp1
 have hx0 : w2.cell? ⟨bx, 0, none⟩ = some (.int .i64 8) := row_cell (HXK.out _ _ _ H2.out) (j := 0) rfl
 have hx3 : w2.cell? ⟨bx, 3, none⟩ = some (.int .u64 0) := row_cell (HXK.out _ _ _ H2.out) (j := 3) rfl
 have hx7 : w2.cell? ⟨bx, 7, none⟩ = some (.string ⟨#[]⟩) := row_cell (HXK.out _ _ _ H2.out) (j := 7) rfl
 rw [HBX.out]
 go_wp2_with fail
 obtain ⟨hu4, P4, hw4, hp4⟩ := H2.out
 refine (wrest_any p d vo [] true P4 ⟨#[]⟩ [] vtk 40 w2 (Lib.hid hw4) (Lib.hid rfl) (by simp) (by simp) (by simp) HET.out (fun r w => vtakes_any r w) (Lib.hid (munk_none d))).mono ?_; intro e w5 hpost
 have H5 := Lib.hid (W8.step hu4 hp4 hpost)
 obtain ⟨rfl, _⟩ := hpost
 clear hu4 hw4 hp4 hx0 hx3 hx7
 go_wp2_with fail
 go_end0
 exact (W8.step (Upd.of_new HB0.out) (fun k hk => .inl hk) H5.out.post).post
set_option maxRecDepth 1000000 in
set_option maxHeartbeats 4000000 in
theorem marshal3 (w : World) : Calls Tryz.prog 22 #[.agg #[.int .i64 3, .string ⟨#[]⟩, .bool false, .int .u64 1, .slice none 0 0, .slice none 0 0, .string ⟨#[]⟩, .string ⟨#[]⟩], .int .i64 0] w fun e w' => Below w.heap.size w w' ∧ e = .returned (.tuple #[.string ⟨#[24, 1]⟩, .nilIface]) := by
 obtain ⟨W0, hW0⟩ : ∃ W, w.alloc (.cells #[.int .i64 3, .string ⟨#[]⟩, .bool false, .int .u64 1, .slice none 0 0, .slice none 0 0, .string ⟨#[]⟩, .string ⟨#[]⟩] 27) = W := ⟨_, rfl⟩
 obtain ⟨bx, hbx⟩ : ∃ bx, w.heap.size = bx := ⟨_, rfl⟩
 have HB0 : Hid (Below w.heap.size w W0) := Lib.hid (by rw [← hW0]; exact below_new _ _)
 have HX0 : Hid (W0.heap[bx]? = some (.cells #[.int .i64 3, .string ⟨#[]⟩, .bool false, .int .u64 1, .slice none 0 0, .slice none 0 0, .string ⟨#[]⟩, .string ⟨#[]⟩] 27 (0, 0))) := Lib.hid (by rw [← hW0, ← hbx]; exact heap_alloc_new _ _)
 have HW0 := Lib.hid hW0
 have HBX := Lib.hid hbx
 clear hW0 hbx
 go_enter Tryz.func22, Tryz.ntmps22
 go_wp2_with fail
 rw [HW0.out, HBX.out]
 refine (wmnew_any 0 W0).mono ?_; rintro e w1 ⟨rfl, hb1, P1, hw1, hp1⟩
 obtain ⟨p, hp⟩ : ∃ p, W0.heap.size = p := ⟨_, rfl⟩
 have hpp : bx < p := by rw [← hp]; exact row_lt HX0.out
 rw [hp] at hw1 hb1 ⊢
 have HB1 : Hid (Below p W0 w1) := Lib.hid hb1
 have HX1 : Hid (w1.heap[bx]? = some (.cells #[.int .i64 3, .string ⟨#[]⟩, .bool false, .int .u64 1, .slice none 0 0, .slice none 0 0, .string ⟨#[]⟩, .string ⟨#[]⟩] 27 (0, 0))) := Lib.hid ((hb1.block _ hpp).trans HX0.out)
 have HP1 : Hid (∀ k, P1 k → p ≤ k) := Lib.hid (fun k hk => by have := hp1 k hk; omega)
 have HW1 : Hid (WrAt p 0 (.slice none 0 0) [] false P1 w1) := Lib.hid hw1
 have HPE := Lib.hid hp
 clear hb1 hw1 hp1 hp
 have hx0 : w1.cell? ⟨bx, 0, none⟩ = some (.int .i64 3) := row_cell HX1.out (j := 0) rfl
 have hx1 : w1.cell? ⟨bx, 1, none⟩ = some (.string ⟨#[]⟩) := row_cell HX1.out (j := 1) rfl
 have hx2 : w1.cell? ⟨bx, 2, none⟩ = some (.bool false) := row_cell HX1.out (j := 2) rfl
 have hx3 : w1.cell? ⟨bx, 3, none⟩ = some (.int .u64 1) := row_cell HX1.out (j := 3) rfl
 have hx4 : w1.cell? ⟨bx, 4, none⟩ = some (.slice none 0 0) := row_cell HX1.out (j := 4) rfl
 have hx5 : w1.cell? ⟨bx, 5, none⟩ = some (.slice none 0 0) := row_cell HX1.out (j := 5) rfl
 have hx6 : w1.cell? ⟨bx, 6, none⟩ = some (.string ⟨#[]⟩) := row_cell HX1.out (j := 6) rfl
 have hx7 : w1.cell? ⟨bx, 7, none⟩ = some (.string ⟨#[]⟩) := row_cell HX1.out (j := 7) rfl
 go_wp2_with fail
 refine (put3 p 0 (.slice none 0 0) P1 w1 HW1).mono ?_; intro e w2 hpost
 obtain ⟨rfl, hu2, P2, hw2, hp2⟩ := hpost
 have hp9 := (wr_lt HW1.out p (by obtain ⟨_, _, _, _, _, rfl⟩ := HW1.out; exact .inl rfl)).2
 have HB2 : Hid (Below p W0 w2) := Lib.hid (HB1.out.trans (hu2.below (by omega) (fun k _ h => HP1.out k h)))
 have HW2 := Lib.hid hw2
 clear hu2 hw2 hp2 hp9 hx0 hx1 hx2 hx3 hx4 hx5 hx6 hx7
 go_wp2_with fail
 refine (wend_any p 0 (.slice none 0 0) [[24, 1], []] false P2 w2 HW2 (by simp) (by simp)).mono ?_; rintro e w3 ⟨hb3, hcase⟩
 have hp9 := (wr_lt HW2.out p (by obtain ⟨_, _, _, _, _, rfl⟩ := HW2.out; exact .inl rfl)).2
 have HB3 : Hid (Below w.heap.size w w3) := Lib.hid (HB0.out.trans ((HB2.out.trans (hb3.mono (by omega))).mono (by have := HPE.out; have := HB0.out.size; omega)))
 rw [if_neg (by simp)] at hcase
 subst hcase
 clear hb3 hp9
 go_wp2_with fail
 go_ret2
 exact ⟨HB3.out, rfl⟩
set_option maxRecDepth 1000000 in
set_option maxHeartbeats 4000000 in
theorem marshal8 (w : World) : Calls Tryz.prog 22 #[.agg #[.int .i64 8, .string ⟨#[]⟩, .bool false, .int .u64 0, .slice none 0 0, .slice none 0 0, .string ⟨#[]⟩, .string ⟨#[]⟩], .int .i64 5] w fun e w' => Below w.heap.size w w' ∧ ∃ v, e = .returned (.tuple #[.string ⟨#[]⟩, v]) ∧ EC w' v 8 := by
 obtain ⟨W0, hW0⟩ : ∃ W, w.alloc (.cells #[.int .i64 8, .string ⟨#[]⟩, .bool false, .int .u64 0, .slice none 0 0, .slice none 0 0, .string ⟨#[]⟩, .string ⟨#[]⟩] 27) = W := ⟨_, rfl⟩
 obtain ⟨bx, hbx⟩ : ∃ bx, w.heap.size = bx := ⟨_, rfl⟩
 have HB0 : Hid (Below w.heap.size w W0) := Lib.hid (by rw [← hW0]; exact below_new _ _)
 have HX0 : Hid (W0.heap[bx]? = some (.cells #[.int .i64 8, .string ⟨#[]⟩, .bool false, .int .u64 0, .slice none 0 0, .slice none 0 0, .string ⟨#[]⟩, .string ⟨#[]⟩] 27 (0, 0))) := Lib.hid (by rw [← hW0, ← hbx]; exact heap_alloc_new _ _)
 have HW0 := Lib.hid hW0
 have HBX := Lib.hid hbx
 clear hW0 hbx
 go_enter Tryz.func22, Tryz.ntmps22
 go_wp2_with fail
 rw [HW0.out, HBX.out]
 refine (wmnew_any 5 W0).mono ?_; rintro e w1 ⟨rfl, hb1, P1, hw1, hp1⟩
 obtain ⟨p, hp⟩ : ∃ p, W0.heap.size = p := ⟨_, rfl⟩
 have hpp : bx < p := by rw [← hp]; exact row_lt HX0.out
 rw [hp] at hw1 hb1 ⊢
 have HB1 : Hid (Below p W0 w1) := Lib.hid hb1
 have HX1 : Hid (w1.heap[bx]? = some (.cells #[.int .i64 8, .string ⟨#[]⟩, .bool false, .int .u64 0, .slice none 0 0, .slice none 0 0, .string ⟨#[]⟩, .string ⟨#[]⟩] 27 (0, 0))) := Lib.hid ((hb1.block _ hpp).trans HX0.out)
 have HP1 : Hid (∀ k, P1 k → p ≤ k) := Lib.hid (fun k hk => by have := hp1 k hk; omega)
 have HW1 : Hid (WrAt p 5 (.slice none 0 0) [] false P1 w1) := Lib.hid hw1
 have HPE := Lib.hid hp
 clear hb1 hw1 hp1 hp
 have hx0 : w1.cell? ⟨bx, 0, none⟩ = some (.int .i64 8) := row_cell HX1.out (j := 0) rfl
 have hx1 : w1.cell? ⟨bx, 1, none⟩ = some (.string ⟨#[]⟩) := row_cell HX1.out (j := 1) rfl
 have hx2 : w1.cell? ⟨bx, 2, none⟩ = some (.bool false) := row_cell HX1.out (j := 2) rfl
 have hx3 : w1.cell? ⟨bx, 3, none⟩ = some (.int .u64 0) := row_cell HX1.out (j := 3) rfl
 have hx4 : w1.cell? ⟨bx, 4, none⟩ = some (.slice none 0 0) := row_cell HX1.out (j := 4) rfl
 have hx5 : w1.cell? ⟨bx, 5, none⟩ = some (.slice none 0 0) := row_cell HX1.out (j := 5) rfl
 have hx6 : w1.cell? ⟨bx, 6, none⟩ = some (.string ⟨#[]⟩) := row_cell HX1.out (j := 6) rfl
 have hx7 : w1.cell? ⟨bx, 7, none⟩ = some (.string ⟨#[]⟩) := row_cell HX1.out (j := 7) rfl
 go_wp2_with fail
 refine (put8 p 5 (.slice none 0 0) P1 w1 HW1).mono ?_; intro e w2 hpost
 obtain ⟨rfl, hu2, P2, hw2, hp2⟩ := hpost
 have hp9 := (wr_lt HW1.out p (by obtain ⟨_, _, _, _, _, rfl⟩ := HW1.out; exact .inl rfl)).2
 have HB2 : Hid (Below p W0 w2) := Lib.hid (HB1.out.trans (hu2.below (by omega) (fun k _ h => HP1.out k h)))
 have HW2 := Lib.hid hw2
 clear hu2 hw2 hp2 hp9 hx0 hx1 hx2 hx3 hx4 hx5 hx6 hx7
 go_wp2_with fail
 refine (wend_any p 5 (.slice none 0 0) [] true P2 w2 HW2 (by simp) (by simp)).mono ?_; rintro e w3 ⟨hb3, hcase⟩
 have hp9 := (wr_lt HW2.out p (by obtain ⟨_, _, _, _, _, rfl⟩ := HW2.out; exact .inl rfl)).2
 have HB3 : Hid (Below w.heap.size w w3) := Lib.hid (HB0.out.trans ((HB2.out.trans (hb3.mono (by omega))).mono (by have := HPE.out; have := HB0.out.size; omega)))
 rw [if_pos rfl] at hcase
 obtain ⟨v, rfl, hec⟩ := hcase
 obtain ⟨T', y, rfl⟩ := hec.iface
 have HEC := Lib.hid hec
 clear hb3 hp9 hec
 go_wp2_with fail
 go_ret2
 exact ⟨HB3.out, _, rfl, HEC.out⟩
theorem vread_first : vread 3 [24, 1] 0 = .ok (.mk 3 [] false 1 [] [] [] []) := by
 have h := vread_num (n := 1) (d := 0) (f := 2) (by omega)
 rw [show (rN 3 1).raw = [24, 1] by decide +kernel] at h
 exact h
set_option maxRecDepth 1000000 in
set_option maxHeartbeats 4000000 in
theorem first8 (w : World) (hg : Glob w) : Calls Tryz.prog 10 #[] w fun e w' => e = .returned (.bool true) ∧ Below w.heap.size w w' := by
 have HG := Lib.hid hg
 have HUN := Lib.hid (fun w' => (both_any 3 ⟨#[24, 1]⟩ 0 w' (by decide) (by decide) (by omega)).1)
 clear hg
 go_enter Tryz.func10, Tryz.ntmps10
 go_wp2_with fail
 refine (marshal3 w).mono ?_; rintro e w1 ⟨hb1, rfl⟩
 have HB1 := Lib.hid hb1
 clear hb1
 go_wp2_with fail
 refine (HUN.out w1).mono ?_; intro e w2 hpost
 obtain ⟨hb2, hcase⟩ := hpost
 have HV : Hid (vread 3 (⟨#[24, 1]⟩ : ByteArray).data.toList 0 = .ok (.mk 3 [] false 1 [] [] [] [])) := Lib.hid vread_first
 rw [HV.out] at hcase
 obtain ⟨cs, rfl, hrel⟩ := hcase
 rw [VRel] at hrel
 obtain ⟨lo, lc, mo, mc, rfl, _⟩ := hrel
 have HB2 := Lib.hid (below_step HB1.out hb2)
 unfold strV
 clear hb2
 go_wp2_with fail
 obtain ⟨bx, hbx⟩ : ∃ bx, w2.heap.size = bx := ⟨_, rfl⟩
 obtain ⟨W3, hW3⟩ : ∃ W, w2.alloc (.cells #[.int .i64 3, .string ⟨#[]⟩, .bool false, .int .u64 1, .slice lo 0 lc, .slice mo 0 mc, .string ⟨#[]⟩, .string ⟨#[]⟩] 27) = W := ⟨_, rfl⟩
 have HB3 : Hid (Below w.heap.size w W3) := Lib.hid (by rw [← hW3]; exact below_step HB2.out (below_new _ _))
 have HX3 : Hid (W3.heap[bx]? = some (.cells #[.int .i64 3, .string ⟨#[]⟩, .bool false, .int .u64 1, .slice lo 0 lc, .slice mo 0 mc, .string ⟨#[]⟩, .string ⟨#[]⟩] 27 (0, 0))) := Lib.hid (by rw [← hW3, ← hbx]; exact heap_alloc_new _ _)
 rw [hW3, hbx]
 clear hW3 hbx
 refine (marshal8 W3).mono ?_; rintro e w4 ⟨hb4, v, rfl, hec⟩
 obtain ⟨T', y, rfl⟩ := hec.iface
 have HEC := Lib.hid hec
 have HB4 := Lib.hid (below_step HB3.out hb4)
 have hx0 : w4.cell? ⟨bx, 0, none⟩ = some (.int .i64 3) := row_cell ((hb4.block _ (row_lt HX3.out)).trans HX3.out) (j := 0) rfl
 have hx3 : w4.cell? ⟨bx, 3, none⟩ = some (.int .u64 1) := row_cell ((hb4.block _ (row_lt HX3.out)).trans HX3.out) (j := 3) rfl
 clear hb4 hec
 go_wp2_with fail
 obtain ⟨ws, he⟩ := HEC.out
 refine (code_any ws _ _ w4 he (root_code _) (HG.out.below HB4.out)).mono ?_; rintro e w5 ⟨rfl, hb5⟩
 rw [show codeOf (codeV ((8 : Nat) : Int)) = 8 from rfl]
 have HB5 := Lib.hid (below_step HB4.out hb5)
 clear hb5 he
 go_wp2_with fail
 go_ret
 exact ⟨rfl, HB5.out⟩
end Go.Proofs.YteknippgiljgeaaGreatDoor
