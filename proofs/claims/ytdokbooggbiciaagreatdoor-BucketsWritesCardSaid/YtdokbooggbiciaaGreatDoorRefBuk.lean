/-
  hygref13.buckets, ReadBuckets, MayBuckets, Buckets.
-/
import Derived.Test.YtdokbooggbiciaaGreatDoorRefMsg
import Derived.Test.YtdokbooggbiciaaGreatDoorBukRef
namespace Go.Proofs.YtdokbooggbiciaaGreatDoor
open Go.RowKit

theorem nats3 (w : World) (a b c : Nat) : Nats .i64 (w.alloc (.cells #[.int .i64 (a : Int), .int .i64 (b : Int), .int .i64 (c : Int)] 3)) (some ⟨w.heap.size, 0, none⟩) [a, b, c] := by
  intro _
  refine ⟨w.heap.size, 0, rfl, by simp, fun j hj => ?_⟩
  have : j = 0 ∨ j = 1 ∨ j = 2 := by simp at hj; omega
  rcases this with rfl | rfl | rfl
  · exact row_cell (heap_alloc_new w _) (j := 0) rfl
  · exact row_cell (heap_alloc_new w _) (j := 1) rfl
  · exact row_cell (heap_alloc_new w _) (j := 2) rfl
set_option maxRecDepth 100000 in
set_option maxHeartbeats 2000000 in
theorem tab14_any (w : World) : Calls Tryz.prog 28 #[] w fun e w' => ∃ ao, e = .returned (.slice ao 3 3) ∧ Hid (Nats .i64 w' ao [8, 16, 18]) ∧ Below w.heap.size w w' := by
  have HN := Lib.hid (nats3 w 8 16 18)
  go_enter Tryz.func28, Tryz.ntmps28
  go_wp2_with fail
  go_ret
  exact ⟨_, rfl, HN, below_new _ _⟩
theorem btk_rtk (r : Rec) : btk r = rtk [8, 16, 18] r := by
  unfold btk rtk
  rw [Bool.eq_iff_iff]
  simp
  omega
/-- a side that is being read, at block b -/
def RbAt (b : Nat) (x : Bk) (U : ByteArray) (w : World) : Prop := ∃ v, w.heap[b]? = some (.cells #[.int .i32 x.off, v, .string U] 25 (0, 0)) ∧ w.ownsRow (b + 1) 44 1 v x.cs.length (nats64 x.cs)
def RBPost (s : ByteArray) (d : Int) (w : World) (e : Ending) (w' : World) : Prop :=
  Below w.heap.size w w' ∧ match bread s.data.toList d with
    | .error _ => e = .returned (.tuple #[bukV ⟨0, []⟩ (.slice none 0 0) [], .bool false])
    | .ok (x, u) => ∃ v, e = .returned (.tuple #[bukV x v u, .bool true]) ∧ w'.ownsRow w.heap.size 44 1 v x.cs.length (nats64 x.cs)
theorem bread_fields {l : List UInt8} {d : Int} : bread l d = match wfields l d with
    | .error c => .error c
    | .ok rs => match mfold btk bstep ⟨0, []⟩ rs with
      | .error c => .error c
      | .ok x => .ok (x, munk btk rs) := by
  unfold bread mread wfields
  split
  · rfl
  · cases wall l d with
    | error c => rfl
    | ok rs =>
      dsimp only
      cases mfold btk bstep ⟨0, []⟩ rs <;> rfl
theorem mfold_no {σ : Type} {tk : Rec → Bool} {step : σ → Rec → Except Nat σ} {st y : σ} {rs : List Rec} {r : Rec} (h : mfold tk step st rs = .ok y) (ht : tk r = false) : mfold tk step st (rs ++ [r]) = .ok y := by
  rw [mfold_append, h]
  simp [mfold, ht]
theorem mfold_yes {σ : Type} {tk : Rec → Bool} {step : σ → Rec → Except Nat σ} {st y : σ} {rs : List Rec} {r : Rec} (h : mfold tk step st rs = .ok y) (ht : tk r = true) : mfold tk step st (rs ++ [r]) = step y r := by
  rw [mfold_append, h]
  simp only [mfold, ht, if_true]
  cases step y r <;> rfl
theorem munk_no {tk : Rec → Bool} {rs : List Rec} {r : Rec} (ht : tk r = false) : munk tk (rs ++ [r]) = munk tk rs ++ r.raw := by
  unfold munk mrest
  simp [List.filter_append, ht]
theorem munk_yes {tk : Rec → Bool} {rs : List Rec} {r : Rec} (ht : tk r = true) : munk tk (rs ++ [r]) = munk tk rs := by
  unfold munk mrest
  simp [List.filter_append, ht]
theorem mfold_err {σ : Type} {tk : Rec → Bool} {step : σ → Rec → Except Nat σ} {st : σ} {rs : List Rec} {j c : Nat} (h : mfold tk step st (rs.take j) = .error c) : mfold tk step st rs = .error c := by
  conv => lhs; rw [← List.take_append_drop j rs]
  rw [mfold_append, h]
theorem wvs_code : ∀ (f : Nat) {l : List UInt8} {c : Nat}, wvs f l = .error c → c = 1 ∨ c = 4
  | 0, l, c, h => by
    rw [wvs] at h
    first | (cases h) | (split at h <;> cases h)
  | f + 1, l, c, h => by
    rw [wvs] at h
    split at h
    · cases h
    · cases hv : wv l with
      | error c' =>
        rw [hv] at h
        simp only [Except.error.injEq] at h
        subst h
        exact wv_err hv
      | ok x =>
        rw [hv] at h
        dsimp only at h
        cases hk : wvs f (l.drop x.2) with
        | error c' =>
          rw [hk] at h
          simp only [Except.error.injEq] at h
          subst h
          exact wvs_code f hk
        | ok ns => rw [hk] at h; cases h
theorem below_three {w w1 : World} (h : Below w.heap.size w w1) {b : Nat} (hb : w.heap.size ≤ b) (x y z : Value) : Below w.heap.size w (((w1.setCell ⟨b, 0, none⟩ x).setCell ⟨b, 1, none⟩ y).setCell ⟨b, 2, none⟩ z) :=
  below_set (below_set (below_set h hb 0 x) hb 1 y) hb 2 z
set_option maxRecDepth 1000000 in
set_option maxHeartbeats 8000000 in
theorem rb_any (s : ByteArray) (d : Int) (w : World) (hs : s.size ≤ 1000000) (hd : d ≤ 9223372036854775807) :
    Calls Tryz.prog 8 #[.string s, .int .i64 d] w (RBPost s d w) := by
  obtain ⟨g, hg⟩ : ∃ g, w.heap.size = g := ⟨_, rfl⟩
  obtain ⟨W0, hW0⟩ : ∃ W0, w.alloc (.cells #[.int .i32 0, .slice none 0 0, .string ⟨#[]⟩] 25) = W0 := ⟨_, rfl⟩
  have HB0 : Hid (Below w.heap.size w W0) := Lib.hid (by rw [← hW0]; exact below_new _ _)
  have HR0 : Hid (W0.heap[g]? = some (.cells #[.int .i32 0, .slice none 0 0, .string ⟨#[]⟩] 25 (0, 0))) := Lib.hid (by rw [← hW0, ← hg]; exact heap_alloc_new w _)
  have HF := Lib.hid (fields_any s d W0 (by omega) hd)
  have HW0 := Lib.hid hW0
  have HGG := Lib.hid hg
  clear hW0
  cases hw : wfields s.data.toList d with
  | error c =>
    have HBR : Hid (bread s.data.toList d = .error c) := Lib.hid (by rw [bread_fields, hw])
    have HW := Lib.hid hw
    clear hw hd hs
    go_enter Tryz.func8, Tryz.ntmps8
    go_wp2_with fail
    rw [HW0.out]
    refine HF.out.mono ?_; intro e w1 hpost
    unfold FieldsPost at hpost
    rw [HW.out] at hpost
    obtain ⟨hb1, rfl⟩ := hpost
    have HB1 := Lib.hid (below_step HB0.out hb1)
    have HR1 : Hid (w1.heap[g]? = some (.cells #[.int .i32 0, .slice none 0 0, .string ⟨#[]⟩] 25 (0, 0))) := Lib.hid ((hb1.block _ (row_lt HR0.out)).trans HR0.out)
    clear hb1
    go_wp2_with fail
    obtain ⟨W2, hW2⟩ : ∃ W2, w1.alloc (.cells #[.int .i32 0, .slice none 0 0, .string ⟨#[]⟩] 25) = W2 := ⟨_, rfl⟩
    have HB2 : Hid (Below w.heap.size w W2) := Lib.hid (by rw [← hW2]; exact below_step HB1.out (below_new _ _))
    have HR2 : Hid (W2.heap[g]? = some (.cells #[.int .i32 0, .slice none 0 0, .string ⟨#[]⟩] 25 (0, 0))) := Lib.hid (by rw [← hW2]; exact (Below.heap_alloc _ _ _ (row_lt HR1.out)).trans HR1.out)
    rw [hW2]
    clear hW2
    have hfz : W2.frozen? ⟨g, 0, none⟩ = false := row_thaw HR2.out 0
    have hfz1 : W2.frozen? ⟨g, 1, none⟩ = false := row_thaw HR2.out 1
    have hfz2 : W2.frozen? ⟨g, 2, none⟩ = false := row_thaw HR2.out 2
    have hc0 : W2.cell? ⟨g, 0, none⟩ = some (.int .i32 0) := row_cell HR2.out (j := 0) rfl
    have hc1 : W2.cell? ⟨g, 1, none⟩ = some (.slice none 0 0) := row_cell HR2.out (j := 1) rfl
    have hc2 : W2.cell? ⟨g, 2, none⟩ = some (.string ⟨#[]⟩) := row_cell HR2.out (j := 2) rfl
    go_loopg [7, 9] 0 (fun k b i wr => b = .bool false ∧ i = .int .i64 0 ∧ wr = W2)
    case atStart => exact ⟨rfl, rfl, rfl⟩
    case round =>
      obtain ⟨rfl, rfl, rfl⟩ := hrel
      go_wp2_with fail
      refine body_cell2 rfl rfl (load_buk (set_three HR2.out _ _ _) rfl) rfl ?_
      refine ⟨below_three HB2.out (by have := HGG.out; omega) _ _ _, ?_⟩
      rw [HBR.out]
      exact rfl
  | ok rs =>
    have HBR : Hid (bread s.data.toList d = match mfold btk bstep ⟨0, []⟩ rs with | .error c => .error c | .ok x => .ok (x, munk btk rs)) := Lib.hid (by rw [bread_fields, hw])
    have HWA : Hid (wall s.data.toList d = .ok rs) := Lib.hid (by unfold wfields at hw; split at hw; cases hw; exact hw)
    have HLL : Hid (rs.length ≤ s.size) := Lib.hid (by have := wall_length HWA.out; simpa using this)
    have HRAW : Hid (rs.flatMap Rec.raw = s.data.toList) := Lib.hid (wall_raws _ (Nat.le_refl _) HWA.out).1
    have HREC : Hid (∀ r ∈ rs, IsRec d r) := Lib.hid (wall_recs _ (Nat.le_refl _) HWA.out)
    have HW := Lib.hid hw
    have HSS := Lib.hid hs
    clear hw hd hs
    go_enter Tryz.func8, Tryz.ntmps8
    go_wp2_with fail
    rw [HW0.out]
    refine HF.out.mono ?_; intro e w1 hpost
    unfold FieldsPost at hpost
    rw [HW.out] at hpost
    obtain ⟨hb1, u, rfl, hown⟩ := hpost
    obtain ⟨lo, lcap, rfl⟩ := own_slice hown
    have HB1 := Lib.hid (below_step HB0.out hb1)
    have HO1 := Lib.hid hown
    have HR1 : Hid (w1.heap[g]? = some (.cells #[.int .i32 0, .slice none 0 0, .string ⟨#[]⟩] 25 (0, 0))) := Lib.hid ((hb1.block _ (row_lt HR0.out)).trans HR0.out)
    clear hb1 hown
    go_wp2_with fail
    obtain ⟨bx, hbx⟩ : ∃ bx, w1.heap.size = bx := ⟨_, rfl⟩
    obtain ⟨W2, hW2⟩ : ∃ W2, w1.alloc (.cells #[.int .i32 0, .slice none 0 0, .string ⟨#[]⟩] 25) = W2 := ⟨_, rfl⟩
    have HB2 : Hid (Below bx w1 W2) := Lib.hid (by rw [← hW2, ← hbx]; exact below_new _ _)
    have HX2 : Hid (RbAt bx ⟨0, []⟩ ⟨#[]⟩ W2) := Lib.hid ⟨.slice none 0 0, by rw [← hW2, ← hbx]; exact heap_alloc_new w1 _, World.ownsRow_nil _ _ _ _⟩
    rw [hW2, hbx]
    have HBX := Lib.hid hbx
    clear hW2 hbx
    go_loopg [7, 9] rs.length (fun k b i wr => ∃ (j : Nat) (x : Bk) (U : ByteArray), i = .int .i64 (j : Int) ∧ Below bx w1 wr ∧ RbAt bx x U wr ∧ (b = .bool true ∧ j + k = rs.length ∧ Hid (mfold btk bstep ⟨0, []⟩ (rs.take j) = .ok x) ∧ Hid (U.data.toList = munk btk (rs.take j)) ∨ b = .bool false ∧ ∃ c, mfold btk bstep ⟨0, []⟩ rs = .error c))
    case atStart => exact ⟨0, ⟨0, []⟩, ⟨#[]⟩, rfl, HB2.out, HX2.out, .inl ⟨rfl, by omega, Lib.hid rfl, Lib.hid rfl⟩⟩
    case round =>
      obtain ⟨j, x, U, rfl, hbr, hx, hcase⟩ := hrel
      have HBR1 := Lib.hid hbr
      obtain ⟨v, hx1, hx2⟩ := hx
      obtain ⟨ao, cap, rfl⟩ := own_slice hx2
      have HX1 := Lib.hid hx1
      have HX2 := Lib.hid hx2
      have HG1 : Hid (wr.heap[g]? = some (.cells #[.int .i32 0, .slice none 0 0, .string ⟨#[]⟩] 25 (0, 0))) := Lib.hid ((hbr.block _ (by have := row_lt HR1.out; rw [HBX.out] at this; exact this)).trans HR1.out)
      have HWB : Hid (Below w.heap.size w wr) := Lib.hid (HB1.out.trans (hbr.mono (by have := HB1.out.size; rw [HBX.out] at this; exact this)))
      clear hbr hx1 hx2
      have hfz : wr.frozen? ⟨g, 0, none⟩ = false := row_thaw HG1.out 0
      have hfz1 : wr.frozen? ⟨g, 1, none⟩ = false := row_thaw HG1.out 1
      have hfz2 : wr.frozen? ⟨g, 2, none⟩ = false := row_thaw HG1.out 2
      have hc0 : wr.cell? ⟨g, 0, none⟩ = some (.int .i32 0) := row_cell HG1.out (j := 0) rfl
      have hc1 : wr.cell? ⟨g, 1, none⟩ = some (.slice none 0 0) := row_cell HG1.out (j := 1) rfl
      have hc2 : wr.cell? ⟨g, 2, none⟩ = some (.string ⟨#[]⟩) := row_cell HG1.out (j := 2) rfl
      rcases hcase with ⟨rfl, hj, HM, HU⟩ | ⟨rfl, c, hm⟩
      case inr =>
        have HBE : Hid (bread s.data.toList d = .error c) := Lib.hid (by rw [HBR.out, hm])
        clear hm
        by_cases hlt : j < rs.length
        · go_wp2_with fail
          refine body_cell2 rfl rfl (load_buk (set_three HG1.out _ _ _) rfl) rfl ?_
          refine ⟨below_three HWB.out (by have := HGG.out; omega) _ _ _, ?_⟩
          rw [HBE.out]
          exact rfl
        · go_wp2_with fail
          refine body_cell2 rfl rfl (load_buk (set_three HG1.out _ _ _) rfl) rfl ?_
          refine ⟨below_three HWB.out (by have := HGG.out; omega) _ _ _, ?_⟩
          rw [HBE.out]
          exact rfl
      have HJ := Lib.hid hj
      have hjl : j ≤ 1000000 := by have := HLL.out; have := HSS.out; omega
      clear hj
      by_cases hlt : j < rs.length
      case neg =>
        have hjn : j = rs.length := by have := HJ.out; omega
        have HMR : Hid (mfold btk bstep ⟨0, []⟩ rs = .ok x) := Lib.hid (by rw [← HM.out, hjn, List.take_length])
        have HUR : Hid (U = ⟨(munk btk rs).toArray⟩) := Lib.hid (ByteArray.ext (Array.ext' (by rw [HU.out, hjn, List.take_length])))
        have HBE : Hid (bread s.data.toList d = .ok (x, munk btk rs)) := Lib.hid (by rw [HBR.out, HMR.out])
        have hx0 : wr.cell? ⟨bx, 0, none⟩ = some (.int .i32 x.off) := row_cell HX1.out (j := 0) rfl
        have hx1 : wr.cell? ⟨bx, 1, none⟩ = some (.slice ao x.cs.length cap) := row_cell HX1.out (j := 1) rfl
        have hx2 : wr.cell? ⟨bx, 2, none⟩ = some (.string U) := row_cell HX1.out (j := 2) rfl
        clear hjn
        go_wp2_with fail
        have hu3 := upd_three wr g (.int .i32 x.off) (.slice ao x.cs.length cap) (.string U)
        refine body_cell2 rfl rfl (load_buk (set_three HG1.out _ _ _) rfl) rfl ?_
        refine ⟨below_three HWB.out (by have := HGG.out; omega) _ _ _, ?_⟩
        rw [HBE.out]
        have h9 := hu3.own HX2.out (fun k hk e => by have := (HX2.out.lt k hk).1; have := row_lt HR1.out; have := HBX.out; omega)
        exact ⟨_, by unfold bukV; rw [← HUR.out]; rfl, own_base_m h9 (by have := HB1.out.size; have := HBX.out; omega)⟩
      have HO := Lib.hid (own_below HO1.out (by rw [HBX.out]; exact HBR1.out))
      obtain ⟨gr, cg, hv, hg1, hg2, _, _⟩ := own_some HO.out (by omega)
      simp only [Value.slice.injEq] at hv
      obtain ⟨rfl, _, rfl⟩ := hv
      obtain ⟨r, HRJ⟩ : ∃ r, Hid (rs[j] = r) := ⟨_, Lib.hid rfl⟩
      have hr0 : wr.cell? ⟨gr, j * 5, none⟩ = some (.int .i64 (r.num : Int)) := by rw [HO.out.cellAt (j * 5) (by omega), show j * 5 = 5 * j + 0 by omega, mrecs_cell hlt (by omega), HRJ.out]; rfl
      have hr1 : wr.cell? ⟨gr, j * 5 + 1, none⟩ = some (.int .i64 (r.ty : Int)) := by rw [HO.out.cellAt (j * 5 + 1) (by omega), show j * 5 + 1 = 5 * j + 1 by omega, mrecs_cell hlt (by omega), HRJ.out]; rfl
      have hr2 : wr.cell? ⟨gr, j * 5 + 2, none⟩ = some (.int .u64 (r.n : Int)) := by rw [HO.out.cellAt (j * 5 + 2) (by omega), show j * 5 + 2 = 5 * j + 2 by omega, mrecs_cell hlt (by omega), HRJ.out]; rfl
      have hr3 : wr.cell? ⟨gr, j * 5 + 3, none⟩ = some (.string ⟨r.s.toArray⟩) := by rw [HO.out.cellAt (j * 5 + 3) (by omega), show j * 5 + 3 = 5 * j + 3 by omega, mrecs_cell hlt (by omega), HRJ.out]; rfl
      have hr4 : wr.cell? ⟨gr, j * 5 + 4, none⟩ = some (.string ⟨r.raw.toArray⟩) := by rw [HO.out.cellAt (j * 5 + 4) (by omega), show j * 5 + 4 = 5 * j + 4 by omega, mrecs_cell hlt (by omega), HRJ.out]; rfl
      clear hfz hfz1 hfz2 hc0 hc1 hc2
      have HTK : Hid (rs.take (j + 1) = rs.take j ++ [r]) := Lib.hid (by rw [List.take_succ_eq_append_getElem hlt, HRJ.out])
      have HRR : Hid (IsRec d r) := Lib.hid (HREC.out r (HRJ.out ▸ List.getElem_mem hlt))
      have HSUM : Hid (U.size + r.raw.length ≤ s.size ∧ r.raw.length ≤ s.size ∧ x.cs.length + r.raw.length ≤ s.size) := Lib.hid (by
        have h1 := raws_le HRAW.out (j + 1)
        rw [HTK.out, List.flatMap_append, List.length_append] at h1
        have h2 := munk_le btk (rs.take j)
        have h3 : U.size = (munk btk (rs.take j)).length := by rw [← HU.out]; simp
        have h4 : ([r].flatMap Rec.raw).length = r.raw.length := by simp
        have h5 : s.data.toList.length = s.size := by simp
        have h6 := (bfold_len (d := d) (rs.take j) (fun z hz => HREC.out z (List.mem_of_mem_take hz)) HM.out).1
        dsimp only [List.length_nil] at h6
        omega)
      go_wp2_with fail
      obtain ⟨rb, hrb⟩ : ∃ rb, wr.heap.size = rb := ⟨_, rfl⟩
      obtain ⟨W3, hW3⟩ : ∃ W3, wr.alloc (.cells #[.int .i64 (r.num : Int), .int .i64 (r.ty : Int), .int .u64 (r.n : Int), .string ⟨r.s.toArray⟩, .string ⟨r.raw.toArray⟩] 66) = W3 := ⟨_, rfl⟩
      have HB3 : Hid (Below wr.heap.size wr W3) := Lib.hid (by rw [← hW3]; exact below_new _ _)
      have HR3 : Hid (W3.heap[rb]? = some (.cells #[.int .i64 (r.num : Int), .int .i64 (r.ty : Int), .int .u64 (r.n : Int), .string ⟨r.s.toArray⟩, .string ⟨r.raw.toArray⟩] 66 (0, 0))) := Lib.hid (by rw [← hW3, ← hrb]; exact heap_alloc_new wr _)
      rw [hW3, hrb]
      clear hW3
      obtain ⟨D, hD⟩ : ∃ D, W3.drew = D := ⟨_, rfl⟩
      have HBD : Hid (Below wr.heap.size wr D) := Lib.hid (by rw [← hD]; exact HB3.out.drew)
      have HRD : Hid (D.heap[rb]? = some (.cells #[.int .i64 (r.num : Int), .int .i64 (r.ty : Int), .int .u64 (r.n : Int), .string ⟨r.s.toArray⟩, .string ⟨r.raw.toArray⟩] 66 (0, 0))) := Lib.hid (by rw [← hD]; exact HR3.out)
      have hne : Nonempty {w' : World // w'.heap[rb]? = some (.cells #[.int .i64 (r.num : Int), .int .i64 (r.ty : Int), .int .u64 (r.n : Int), .string ⟨r.s.toArray⟩, .string ⟨r.raw.toArray⟩] 66 (0, 0))} := ⟨⟨_, HRD.out⟩⟩
      refine wp_region_seq (S := fun w' => w'.heap[rb]? = some (.cells #[.int .i64 (r.num : Int), .int .i64 (r.ty : Int), .int .u64 (r.n : Int), .string ⟨r.s.toArray⟩, .string ⟨r.raw.toArray⟩] 66 (0, 0))) [(1, true), (0, false), (2, false), (3, true), (4, true)] (by kernel_rfl) (by kernel_rfl) (by kernel_rfl) (by kernel_rfl) (by rw [hD]; exact HRD.out) ?_
      rw [hD]
      clear hD hr0 hr1 hr2 hr3 hr4
      refine seq_take _ rfl (fun K hK => ?_); go_simp
      refine ⟨.agg #[.int .i64 (r.num : Int), .int .i64 (r.ty : Int), .int .u64 (r.n : Int), .string ⟨r.s.toArray⟩, .string ⟨r.raw.toArray⟩], fun a ha => by (have e0 : a.cell? ⟨rb, 0, none⟩ = some (.int .i64 (r.num : Int)) := row_cell ha (j := 0) rfl); (have e1 : a.cell? ⟨rb, 1, none⟩ = some (.int .i64 (r.ty : Int)) := row_cell ha (j := 1) rfl); (have e2 : a.cell? ⟨rb, 2, none⟩ = some (.int .u64 (r.n : Int)) := row_cell ha (j := 2) rfl); (have e3 : a.cell? ⟨rb, 3, none⟩ = some (.string ⟨r.s.toArray⟩) := row_cell ha (j := 3) rfl); (have e4 : a.cell? ⟨rb, 4, none⟩ = some (.string ⟨r.raw.toArray⟩) := row_cell ha (j := 4) rfl); simp only [e0, e1, e2, e3, e4, Result.andThen], hK _ ?_⟩
      clear hK K
      refine seq_come _ rfl (fun K hK => ?_); go_simp
      refine (tab14_any D).mono ?_; rintro e w4 ⟨to, rfl, HNT, hb4⟩
      have HB4 := Lib.hid (below_step HBD.out hb4)
      have HR4 : Hid (w4.heap[rb]? = some (.cells #[.int .i64 (r.num : Int), .int .i64 (r.ty : Int), .int .u64 (r.n : Int), .string ⟨r.s.toArray⟩, .string ⟨r.raw.toArray⟩] 66 (0, 0))) := Lib.hid ((hb4.block _ (row_lt HRD.out)).trans HRD.out)
      go_simp; refine hK.out _ _ HR4.out ?_; clear hK K hb4
      refine seq_come _ rfl (fun K hK => ?_); go_simp
      refine (takes8_any [8, 16, 18] to 3 r w4 HNT (by decide) (by decide)).mono ?_; rintro e w5 ⟨rfl, hb5⟩
      rw [← btk_rtk]
      have HB5 := Lib.hid (below_step HB4.out hb5)
      have HR5 : Hid (w5.heap[rb]? = some (.cells #[.int .i64 (r.num : Int), .int .i64 (r.ty : Int), .int .u64 (r.n : Int), .string ⟨r.s.toArray⟩, .string ⟨r.raw.toArray⟩] 66 (0, 0))) := Lib.hid ((hb5.block _ (row_lt HR4.out)).trans HR4.out)
      go_simp; refine hK.out _ _ HR5.out ?_; clear hK K hb5
      iterate 2 (refine seq_take _ rfl (fun K hK => ?_); go_simp; (first | refine hK _ ?_ | refine ⟨_, fun _ _ => rfl, hK _ ?_⟩); clear hK K)
      refine seq_done ?_
      have HX5 : Hid (w5.heap[bx]? = some (.cells #[.int .i32 x.off, .slice ao x.cs.length cap, .string U] 25 (0, 0))) := Lib.hid ((HB5.out.block _ (row_lt HX1.out)).trans HX1.out)
      have HO5 : Hid (w5.ownsRow (bx + 1) 44 1 (.slice ao x.cs.length cap) x.cs.length (nats64 x.cs)) := Lib.hid (own_below HX2.out HB5.out)
      have HBR5 : Hid (Below bx w1 w5) := Lib.hid (HBR1.out.trans (HB5.out.mono (by have := row_lt HX1.out; omega)))
      have hxb := row_lt HX5.out
      obtain ⟨S, hS⟩ : ∃ S : ByteArray, (⟨r.s.toArray⟩ : ByteArray) = S := ⟨_, rfl⟩
      obtain ⟨R, hR⟩ : ∃ S : ByteArray, (⟨r.raw.toArray⟩ : ByteArray) = S := ⟨_, rfl⟩
      have HSD : Hid (S.data.toList = r.s) := Lib.hid (by rw [← hS])
      have HRD2 : Hid (R.data.toList = r.raw) := Lib.hid (by rw [← hR])
      rw [hS, hR] at HR5 ⊢
      clear hS hR hne
      cases htk : btk r with
      | false =>
        have HTN := Lib.hid htk
        have hsz : ¬ 9223372036854775807 < U.size + R.size := by
          have h1 : R.size = r.raw.length := by rw [← HRD2.out]; simp
          have h2 := HSUM.out
          have h3 := HSS.out
          omega
        have hx2 : w5.cell? ⟨bx, 2, none⟩ = some (.string U) := row_cell HX5.out (j := 2) rfl
        have hxf : w5.frozen? ⟨bx, 2, none⟩ = false := row_thaw HX5.out 2
        have hr4 : w5.cell? ⟨rb, 4, none⟩ = some (.string R) := row_cell HR5.out (j := 4) rfl
        clear htk
        go_wp2_with fail
        have hj := HJ.out
        have hu := Upd.set w5 ⟨bx, 2, none⟩ (.string (U ++ R))
        go_roundg (gk - 1)
        case measure => omega
        case rel =>
          refine ⟨j + 1, x, U ++ R, by simp, HBR5.out.trans (hu.below (by omega) (fun k _ h => by have h : k = bx := h; omega)), ⟨_, row_set HX5.out 2 _, hu.own HO5.out (fun k hk e => by have e : k = bx := e; have := (HO5.out.lt k hk).1; omega)⟩, .inl ⟨rfl, by omega, Lib.hid ?_, Lib.hid ?_⟩⟩
          · rw [HTK.out]; exact mfold_no HM.out HTN.out
          · rw [HTK.out, munk_no HTN.out, ByteArray.data_append, Array.toList_append, HU.out, HRD2.out]
      | true =>
        have HTN := Lib.hid htk
        have HMU : Hid (U.data.toList = munk btk (rs.take (j + 1))) := Lib.hid (by rw [HTK.out, munk_yes HTN.out, HU.out])
        have HMY : Hid (mfold btk bstep ⟨0, []⟩ (rs.take (j + 1)) = bstep x r) := Lib.hid (by rw [HTK.out]; exact mfold_yes HM.out HTN.out)
        have hr0 : w5.cell? ⟨rb, 0, none⟩ = some (.int .i64 (r.num : Int)) := row_cell HR5.out (j := 0) rfl
        have hr1 : w5.cell? ⟨rb, 1, none⟩ = some (.int .i64 (r.ty : Int)) := row_cell HR5.out (j := 1) rfl
        have hr2 : w5.cell? ⟨rb, 2, none⟩ = some (.int .u64 (r.n : Int)) := row_cell HR5.out (j := 2) rfl
        have hr3 : w5.cell? ⟨rb, 3, none⟩ = some (.string S) := row_cell HR5.out (j := 3) rfl
        have hrn := (isrec_facts HRR.out).1
        by_cases hn : r.num = 1
        · have d1 : ((r.num : Int) == 1) = true := by rw [beq_iff_eq]; omega
          have HB1 : Hid (bstep x r = .ok ⟨zag (r.n % 2 ^ 32), x.cs⟩) := Lib.hid (if_pos hn)
          obtain ⟨z, hz⟩ : ∃ z, zag (r.n % 2 ^ 32) = z := ⟨_, rfl⟩
          rw [hz] at HB1
          have HZ := Lib.hid hz
          have HN := Lib.hid hrn
          have hx0 : w5.cell? ⟨bx, 0, none⟩ = some (.int .i32 x.off) := row_cell HX5.out (j := 0) rfl
          have hxf : w5.frozen? ⟨bx, 0, none⟩ = false := row_thaw HX5.out 0
          clear htk hn hz hrn
          go_wp2_with fail
          refine (refzag32_any r.n w5 HN).mono ?_; rintro e w6 ⟨rfl, rfl⟩
          rw [HZ.out]
          go_wp2_with fail
          have hj := HJ.out
          have hu := Upd.set w5 ⟨bx, 0, none⟩ (.int .i32 z)
          go_roundg (gk - 1)
          case measure => omega
          case rel =>
            exact ⟨j + 1, ⟨z, x.cs⟩, U, by simp, HBR5.out.trans (hu.below (by omega) (fun k _ h => by have h : k = bx := h; omega)), ⟨_, row_set HX5.out 0 _, hu.own HO5.out (fun k hk e => by have e : k = bx := e; have := (HO5.out.lt k hk).1; omega)⟩, .inl ⟨rfl, by omega, Lib.hid (by rw [HMY.out, HB1.out]), HMU⟩⟩
        · have d1 : ((r.num : Int) == 1) = false := by rw [beq_eq_false_iff_ne]; omega
          have HB1 : Hid (bstep x r = match pstep x.cs r with | .error c => .error c | .ok ys => .ok ⟨x.off, ys⟩) := Lib.hid (if_neg hn)
          have hty : r.ty = 2 ∨ r.ty = 0 := by
            unfold btk at htk
            simp only [decide_eq_true_iff] at htk
            omega
          have hx1 : w5.cell? ⟨bx, 1, none⟩ = some (.slice ao x.cs.length cap) := row_cell HX5.out (j := 1) rfl
          have hxf : w5.frozen? ⟨bx, 1, none⟩ = false := row_thaw HX5.out 1
          have hsum := HSUM.out
          have hss := HSS.out
          by_cases h0 : r.ty = 0
          · have d2 : ((r.ty : Int) == 0) = true := by rw [beq_iff_eq]; omega
            have HP : Hid (bstep x r = .ok ⟨x.off, x.cs ++ [r.n]⟩) := Lib.hid (by rw [HB1.out]; unfold pstep; rw [if_pos (by omega)])
            clear htk hn hty h0 hrn
            go_wp2_with (at_builtin; refine wpList_app1_at rfl _ _ 23 rfl Tryz.elU64 (by decide) HO5.out rfl (cs := [.int .u64 (r.n : Int)]) (c := 1) rfl rfl (by simp [Value.oneCell']) (by unfold maxLen; omega) (by omega) (by omega) ?_; intro g2 cap2 w6 hown2 hgrow hnew; have HX6 := Lib.hid ((hgrow.block _ (row_lt HX5.out) (fun e => by have h7 := (HO5.out.lt _ e.symm).1; omega)).trans HX5.out); have hcb2 : w6.cell? ⟨bx, 1, none⟩ = some (.slice ao x.cs.length cap) := row_cell HX6.out (j := 1) rfl; have hfz2 : w6.frozen? ⟨bx, 1, none⟩ = false := row_thaw HX6.out 1)
            have hj := HJ.out
            have hgu : Upd (fun k => (Value.slice ao x.cs.length cap).ownBlock = some k) w5 w6 := Upd.of_grown hgrow
            have hu := Upd.set w6 ⟨bx, 1, none⟩ (.slice (some ⟨g2, 0, none⟩) (x.cs.length + 1) cap2)
            have HO6 : Hid (w6.ownsRow (bx + 1) 44 1 (.slice (some ⟨g2, 0, none⟩) (x.cs.length + 1) cap2) (x.cs ++ [r.n]).length (nats64 (x.cs ++ [r.n]))) := Lib.hid (by rw [List.length_append]; unfold nats64 at hown2 ⊢; rw [List.map_append]; exact hown2)
            have hs6 := hgu.size
            go_roundg (gk - 1)
            case measure => omega
            case rel =>
              exact ⟨j + 1, ⟨x.off, x.cs ++ [r.n]⟩, U, by simp, (HBR5.out.trans (hgu.below (by omega) (fun k _ hk => by have := (HO5.out.lt k hk).1; omega))).trans (hu.below (by omega) (fun k _ h => by have h : k = bx := h; omega)), ⟨_, row_set HX6.out 1 _, hu.own HO6.out (fun k hk e => by have e : k = bx := e; have := (HO6.out.lt k hk).1; omega)⟩, .inl ⟨rfl, by omega, Lib.hid (by rw [HMY.out, HP.out]), HMU⟩⟩
          · have h2 : r.ty = 2 := by omega
            have d2 : ((r.ty : Int) == 0) = false := by rw [beq_eq_false_iff_ne]; omega
            have hSz : S.size ≤ 1000000 := by
              have h1 : S.size = r.s.length := by rw [← HSD.out]; simp
              have h3 := (isrec_facts HRR.out).2.1
              omega
            have HV := Lib.hid (rvarints_any S w5 hSz)
            have HP0 : Hid (pstep x.cs r = match wvars r.s with | .error c => .error c | .ok ns => .ok (x.cs ++ ns)) := Lib.hid (by unfold pstep; rw [if_neg (by rw [h2]; simp)]; cases wvars r.s <;> rfl)
            have hxlen : x.cs.length ≤ 1000000 := by omega
            clear htk hn hty h0 h2 hrn hsum hss
            go_wp2_with fail
            refine HV.out.mono ?_; intro e w6 hpost
            unfold RVarsPost at hpost
            rw [HSD.out] at hpost
            cases hv : wvars r.s with
            | error c =>
              rw [hv] at hpost
              obtain ⟨rfl, hb6⟩ := hpost
              have hcc := wvs_code _ hv
              have d3 : ((c : Int) == 0) = false := by rw [beq_eq_false_iff_ne]; omega
              have HBS : Hid (mfold btk bstep ⟨0, []⟩ rs = .error c) := Lib.hid (mfold_err (j := j + 1) (by rw [HMY.out, HB1.out, HP0.out, hv]))
              have HX6 : Hid (w6.heap[bx]? = some (.cells #[.int .i32 x.off, .slice ao x.cs.length cap, .string U] 25 (0, 0))) := Lib.hid ((hb6.block _ (row_lt HX5.out)).trans HX5.out)
              have HO6 : Hid (w6.ownsRow (bx + 1) 44 1 (.slice ao x.cs.length cap) x.cs.length (nats64 x.cs)) := Lib.hid (own_below HO5.out hb6)
              have HB6 : Hid (Below bx w1 w6) := Lib.hid (HBR5.out.trans (hb6.mono (by omega)))
              have hs6 := hb6.size
              have hx1 : w6.cell? ⟨bx, 1, none⟩ = some (.slice ao x.cs.length cap) := row_cell HX6.out (j := 1) rfl
              have hxf : w6.frozen? ⟨bx, 1, none⟩ = false := row_thaw HX6.out 1
              clear hv hb6 hcc
              go_wp2_with (at_builtin; refine wpList_app_nats_at _ _ 23 rfl rfl Tryz.elU64 HO6.out rfl (ao := none) (cap := 0) (l := []) (fun h => absurd rfl h) (fun _ => rfl) rfl (by unfold maxLen; simp; omega) (by simp; omega) (by omega) ?_; intro v' w7 hown7 hgrow hnew; obtain ⟨ao', cap', rfl⟩ := own_slice hown7; have HX7 := Lib.hid ((hgrow.block _ (row_lt HX6.out) (fun e => by have h7 := (HO6.out.lt _ e.symm).1; omega)).trans HX6.out); have hcb2 : w7.cell? ⟨bx, 1, none⟩ = some (.slice ao x.cs.length cap) := row_cell HX7.out (j := 1) rfl; have hfz2 : w7.frozen? ⟨bx, 1, none⟩ = false := row_thaw HX7.out 1)
              have hgu : Upd (fun k => (Value.slice ao x.cs.length cap).ownBlock = some k) w6 w7 := Upd.of_grown hgrow
              have hu := Upd.set w7 ⟨bx, 1, none⟩ (.slice ao' (x.cs.length + ([] : List Nat).length) cap')
              have hs7 := hgu.size
              have hj := HJ.out
              have HO7 : Hid (w7.ownsRow (bx + 1) 44 1 (.slice ao' x.cs.length cap') x.cs.length (nats64 x.cs)) := Lib.hid (by simpa [nvals] using hown7)
              go_roundg (gk - 1)
              case measure => omega
              case rel =>
                exact ⟨j + 1, x, U, by simp, (HB6.out.trans (hgu.below (by omega) (fun k _ hk => by have := (HO6.out.lt k hk).1; omega))).trans (hu.below (by omega) (fun k _ h => by have h : k = bx := h; omega)), ⟨_, row_set HX7.out 1 _, hu.own HO7.out (fun k hk e => by have e : k = bx := e; have := (HO7.out.lt k hk).1; omega)⟩, .inr ⟨rfl, c, HBS.out⟩⟩
            | ok ns =>
              rw [hv] at hpost
              obtain ⟨uv, rfl, hown1, hnl, hb6⟩ := hpost
              have hnil := own_nil hown1
              obtain ⟨uo, ucap, rfl⟩ := own_slice hown1
              have HNS : Hid (Nats .u64 w6 uo ns) := Lib.hid (nats_of_own hown1)
              have HNIL : Hid (uo = none → ucap = 0) := Lib.hid (fun h => hnil uo _ ucap rfl h)
              have HP : Hid (bstep x r = .ok ⟨x.off, x.cs ++ ns⟩) := Lib.hid (by rw [HB1.out, HP0.out, hv])
              have HX6 : Hid (w6.heap[bx]? = some (.cells #[.int .i32 x.off, .slice ao x.cs.length cap, .string U] 25 (0, 0))) := Lib.hid ((hb6.block _ (row_lt HX5.out)).trans HX5.out)
              have HO6 : Hid (w6.ownsRow (bx + 1) 44 1 (.slice ao x.cs.length cap) x.cs.length (nats64 x.cs)) := Lib.hid (own_below HO5.out hb6)
              have HB6 : Hid (Below bx w1 w6) := Lib.hid (HBR5.out.trans (hb6.mono (by omega)))
              have hs6 := hb6.size
              have hx1 : w6.cell? ⟨bx, 1, none⟩ = some (.slice ao x.cs.length cap) := row_cell HX6.out (j := 1) rfl
              have hxf : w6.frozen? ⟨bx, 1, none⟩ = false := row_thaw HX6.out 1
              have hnl2 : ns.length ≤ 1000000 := by omega
              clear hv hb6 hown1 hnil
              go_wp2_with (at_builtin; refine wpList_app_nats_at _ _ 23 rfl rfl Tryz.elU64 HO6.out rfl HNS.out HNIL.out rfl (by unfold maxLen; omega) (by omega) (by omega) ?_; intro v' w7 hown7 hgrow hnew; obtain ⟨ao', cap', rfl⟩ := own_slice hown7; have HX7 := Lib.hid ((hgrow.block _ (row_lt HX6.out) (fun e => by have h7 := (HO6.out.lt _ e.symm).1; omega)).trans HX6.out); have hcb2 : w7.cell? ⟨bx, 1, none⟩ = some (.slice ao x.cs.length cap) := row_cell HX7.out (j := 1) rfl; have hfz2 : w7.frozen? ⟨bx, 1, none⟩ = false := row_thaw HX7.out 1)
              have hgu : Upd (fun k => (Value.slice ao x.cs.length cap).ownBlock = some k) w6 w7 := Upd.of_grown hgrow
              have hu := Upd.set w7 ⟨bx, 1, none⟩ (.slice ao' (x.cs.length + ns.length) cap')
              have hs7 := hgu.size
              have hj := HJ.out
              have HO7 : Hid (w7.ownsRow (bx + 1) 44 1 (.slice ao' (x.cs.length + ns.length) cap') (x.cs ++ ns).length (nats64 (x.cs ++ ns))) := Lib.hid (by rw [List.length_append]; unfold nats64 at hown7 ⊢; rw [List.map_append]; exact hown7)
              go_roundg (gk - 1)
              case measure => omega
              case rel =>
                exact ⟨j + 1, ⟨x.off, x.cs ++ ns⟩, U, by simp, (HB6.out.trans (hgu.below (by omega) (fun k _ hk => by have := (HO6.out.lt k hk).1; omega))).trans (hu.below (by omega) (fun k _ h => by have h : k = bx := h; omega)), ⟨_, row_set HX7.out 1 _, hu.own HO7.out (fun k hk e => by have e : k = bx := e; have := (HO7.out.lt k hk).1; omega)⟩, .inl ⟨rfl, by omega, Lib.hid (by rw [HMY.out, HP.out]), HMU⟩⟩
end Go.Proofs.YtdokbooggbiciaaGreatDoor
