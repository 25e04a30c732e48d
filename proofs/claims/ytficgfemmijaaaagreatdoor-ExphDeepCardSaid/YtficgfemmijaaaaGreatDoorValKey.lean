/-
  value.Unmarshal.
-/
import Derived.Test.YtficgfemmijaaaaGreatDoorValTake
import Derived.Deep.Cut
import Derived.Test.YtficgfemmijaaaaGreatDoorFld
set_option maxRecDepth 1000000
set_option maxHeartbeats 16000000
namespace Go.Proofs.YtficgfemmijaaaaGreatDoor
open Go.RowKit
def Val.withUnk : Val → List UInt8 → Val
 | .mk k s b n l m i _, u => .mk k s b n l m i u
theorem VRel.unk {w : World} {P : Nat → Prop} {u : List UInt8} : ∀ {x : Val} {cs : List Value}, VRel w P x cs → VRel w P (x.withUnk u) (cs.set 7 (strV u))
 | .mk k s b n l m i _, cs, h => by
  rw [VRel] at h
  obtain ⟨lo, lc, mo, mc, rfl, h1, h2⟩ := h
  rw [Val.withUnk, VRel]
  exact ⟨lo, lc, mo, mc, rfl, h1, h2⟩
theorem stands_unk (vr : List UInt8 → Int → Except Nat Val) (kr : List UInt8 → Int → Except Nat KV) (o : One) (d : Int) (u : List UInt8) : stands vr kr o d u = match stands vr kr o d [] with
  | .error c => .error c
  | .ok x => .ok (x.withUnk u) := by
 unfold stands
 split
 ·rfl
 ·split
  ·rfl
  ·split
   ·rfl
   ·split
    ·cases lread vr o.ps.flatten d with
     | error c => rfl
     | ok x => obtain ⟨xs, i⟩ := x; rfl
    ·split
     ·cases lread kr o.ps.flatten d with
      | error c => rfl
      | ok x => obtain ⟨xs, i⟩ := x; rfl
     ·rfl
theorem vew_at {w : World} {q : Nat} {v : Value} {c : Nat} (h : EC w v c) : EW (w.alloc (.cells #[.int .i64 (q : Int), v] 157)) (.iface 154 (.pointer (some ⟨w.heap.size, 0, none⟩))) q c := by
 obtain ⟨ws, h⟩ := h
 exact ⟨ws, w.heap.size, v, rfl, by simp, heap_alloc_new w _, isErr_below ((Below.refl _ _).alloc (Nat.le_refl _) _) h⟩
theorem one0_at (b : Nat) (w : World) (h : w.heap[b]? = some (.cells #[.int .i64 0, .int .i64 0, .int .u64 0, .string ⟨#[]⟩, .string ⟨#[]⟩, .slice none 0 0] 252 (0, 0))) : OneAt b one0 (fun k => k = b ∨ (Value.slice none 0 0).ownBlock = some k) w :=
 ⟨.slice none 0 0, h, World.ownsRow_nil _ _ _ _, rfl⟩
theorem mread_depth {σ : Type} {tk : Rec → Bool} {step : σ → Rec → Except Nat σ} {st : σ} {l : List UInt8} {d : Int} {x : σ × List UInt8} (h : mread tk step st l d = .ok x) : 0 ≤ d ∧ ∃ rs, wall l d = .ok rs ∧ mfold tk step st rs = .ok x.1 := by
 unfold mread at h
 split at h
 ·cases h
 ·cases hw : wall l d with
  | error c => rw [hw] at h; cases h
  | ok rs =>
   rw [hw] at h
   dsimp only at h
   cases hm : mfold tk step st rs with
   | error c => rw [hm] at h; cases h
   | ok y =>
    rw [hm] at h
    simp only [Except.ok.injEq] at h
    subst h
    exact ⟨by omega, rs, rfl, hm⟩
theorem one_le {l : List UInt8} {d : Int} {o : One} {u : List UInt8} (h : mread vtk ostep one0 l d = .ok (o, u)) : o.ps.flatten.length ≤ l.length ∧ o.ps.length ≤ l.length := by
 obtain ⟨_, rs, hw, hm⟩ := mread_depth h
 dsimp only at hm
 have h1 := ofold_len rs (wall_recs _ (Nat.le_refl _) hw) hm
 have h2 := (wall_raws _ (Nat.le_refl _) hw).1
 rw [h2] at h1
 have h3 : one0.ps.flatten.length = 0 := rfl
 have h4 : one0.ps.length = 0 := rfl
 refine ⟨?_, by omega⟩
 rcases h1.1 with h | h
 ·rw [h]; show 0 ≤ _; omega
 ·omega
theorem vun_step (f : Nat) (X : ByteArray) (d : Int) (w : World) (hX : X.size ≤ 1000000) (hd : -9223372036854775808 ≤ d ∧ d ≤ 9223372036854775807)
  (hvr : Hid (∀ (Y : ByteArray) (d' : Int) w', Y.size < X.size → -9223372036854775808 ≤ d' ∧ d' ≤ 9223372036854775807 → Calls Tryz.prog 134 #[.string Y, .int .i64 d'] w' (VPost (vread f Y.data.toList d') Y.size w')))
  (hkr : Hid (∀ (Y : ByteArray) (d' : Int) w', Y.size < X.size → -9223372036854775808 ≤ d' ∧ d' ≤ 9223372036854775807 → Calls Tryz.prog 76 #[.string Y, .int .i64 d'] w' (KPost (kread f Y.data.toList d') Y.size w'))) :
  Calls Tryz.prog 134 #[.string X, .int .i64 d] w (VPost (vread (f + 1) X.data.toList d) X.size w) := by
 have HK := Lib.hid (fun (b : Nat) (r : Rec) (st : One) (P : Nat → Prop) (w : World) (_ : vtk r = true) (hr : IsRec d r) (hraw : r.raw.length ≤ X.size) (_ : ∀ rs, wall X.data.toList d = .ok rs → r ∈ rs) (hpre : ∃ pre : List Rec, (∀ x ∈ pre, IsRec d x) ∧ mfold vtk ostep one0 pre = .ok st ∧ (pre.flatMap Rec.raw).length + r.raw.length ≤ X.size) (h : (oneTaker b).rel st P w) => vtake_any b r st P w (by have := isrec_s hr; omega) (by
  obtain ⟨pre, h1, h2, h3⟩ := hpre
  have := (ofold_len pre h1 h2).2.1
  have h4 : one0.ps.length = 0 := rfl
  have := isrec_s hr
  omega) (Lib.hid h))
 have HE1 := Lib.hid (enters_of Tryz.func169 (by kernel_rfl) rfl)
 have HE2 := Lib.hid (enters_of Tryz.func170 (by kernel_rfl) rfl)
 have HRD : Hid (vread (f + 1) X.data.toList d = match mread vtk ostep one0 X.data.toList d with | .error c => .error c | .ok (o, unk) => stands (vread f) (kread f) o (d - 1) unk) := Lib.hid (by rw [vread]; cases mread vtk ostep one0 X.data.toList d <;> rfl)
 obtain ⟨g, hg⟩ : ∃ g, w.heap.size = g := ⟨_, rfl⟩
 obtain ⟨W0, hW0⟩ : ∃ W0, (w.alloc (.cells #[.int .i64 0, .string ⟨#[]⟩, .bool false, .int .u64 0, .slice none 0 0, .slice none 0 0, .string ⟨#[]⟩, .string ⟨#[]⟩] 77)).alloc (.cells #[.int .i64 0, .int .i64 0, .int .u64 0, .string ⟨#[]⟩, .string ⟨#[]⟩, .slice none 0 0] 252) = W0 := ⟨_, rfl⟩
 have HB0 : Hid (Below w.heap.size w W0) := Lib.hid (by rw [← hW0]; exact below_step (below_new _ _) (below_new _ _))
 have HR0 : Hid (W0.heap[g]? = some (.cells #[.int .i64 0, .string ⟨#[]⟩, .bool false, .int .u64 0, .slice none 0 0, .slice none 0 0, .string ⟨#[]⟩, .string ⟨#[]⟩] 77 (0, 0))) := Lib.hid (by rw [← hW0, ← hg]; exact (Below.heap_alloc _ _ _ (by simp)).trans (heap_alloc_new w _))
 have HX0 : Hid (W0.heap[g + 1]? = some (.cells #[.int .i64 0, .int .i64 0, .int .u64 0, .string ⟨#[]⟩, .string ⟨#[]⟩, .slice none 0 0] 252 (0, 0))) := Lib.hid (by rw [← hW0]; exact new_two_c hg _ _)
 have HTK : Hid ((oneTaker (g + 1)).rel one0 (fun k => k = g + 1 ∨ (Value.slice none 0 0).ownBlock = some k) W0) := Lib.hid (one0_at _ _ HX0.out)
 have HW0 := Lib.hid hW0
 have HGG := Lib.hid hg
 clear hW0
 go_enter Tryz.func134, Tryz.ntmps134
 go_wp2_with fail
 rw [HW0.out]
 refine (mread_any (oneTaker (g + 1)) vtk ostep 169 170 #[.pointer (some ⟨g + 1, 0, none⟩)] one0 X d W0 hX HE1.out HE2.out (fun r w _ => vtakes_any r w) (HK.out (g + 1)) _ HTK.out).mono ?_; intro e w1 hpost
 obtain ⟨hu, hcase⟩ := hpost
 have hu1 : Upd (fun k => k = g + 1) W0 w1 := hu.mono (fun k _ h => by
  rcases h with h | h
  ·exact h
  ·simp [Value.ownBlock] at h)
 have HR1 : Hid (w1.heap[g]? = some (.cells #[.int .i64 0, .string ⟨#[]⟩, .bool false, .int .u64 0, .slice none 0 0, .slice none 0 0, .string ⟨#[]⟩, .string ⟨#[]⟩] 77 (0, 0))) := Lib.hid ((hu1.block g (row_lt HR0.out) (by omega)).trans HR0.out)
 have HB1 : Hid (Below w.heap.size w w1) := Lib.hid (HB0.out.trans (hu1.below (by have := HB0.out.size; omega) (fun k _ h => by have h : k = g + 1 := h; omega)))
 clear hu hu1
 cases hb : mread vtk ostep one0 X.data.toList d with
 | error c =>
  rw [hb] at hcase
  obtain ⟨v, q, rfl, hq, hew⟩ := hcase
  obtain ⟨T', y, rfl⟩ := hew.iface
  have HBR : Hid (vread (f + 1) X.data.toList d = .error c) := Lib.hid (by rw [HRD.out, hb])
  have HEW := Lib.hid hew
  clear hb hew
  have hg0 : w1.cell? ⟨g, 0, none⟩ = some (.int .i64 0) := row_cell HR1.out (j := 0) rfl
  have fg0 : w1.frozen? ⟨g, 0, none⟩ = false := row_thaw HR1.out 0
  have hg1 : w1.cell? ⟨g, 1, none⟩ = some (.string ⟨#[]⟩) := row_cell HR1.out (j := 1) rfl
  have fg1 : w1.frozen? ⟨g, 1, none⟩ = false := row_thaw HR1.out 1
  have hg2 : w1.cell? ⟨g, 2, none⟩ = some (.bool false) := row_cell HR1.out (j := 2) rfl
  have fg2 : w1.frozen? ⟨g, 2, none⟩ = false := row_thaw HR1.out 2
  have hg3 : w1.cell? ⟨g, 3, none⟩ = some (.int .u64 0) := row_cell HR1.out (j := 3) rfl
  have fg3 : w1.frozen? ⟨g, 3, none⟩ = false := row_thaw HR1.out 3
  have hg4 : w1.cell? ⟨g, 4, none⟩ = some (.slice none 0 0) := row_cell HR1.out (j := 4) rfl
  have fg4 : w1.frozen? ⟨g, 4, none⟩ = false := row_thaw HR1.out 4
  have hg5 : w1.cell? ⟨g, 5, none⟩ = some (.slice none 0 0) := row_cell HR1.out (j := 5) rfl
  have fg5 : w1.frozen? ⟨g, 5, none⟩ = false := row_thaw HR1.out 5
  have hg6 : w1.cell? ⟨g, 6, none⟩ = some (.string ⟨#[]⟩) := row_cell HR1.out (j := 6) rfl
  have fg6 : w1.frozen? ⟨g, 6, none⟩ = false := row_thaw HR1.out 6
  have hg7 : w1.cell? ⟨g, 7, none⟩ = some (.string ⟨#[]⟩) := row_cell HR1.out (j := 7) rfl
  have fg7 : w1.frozen? ⟨g, 7, none⟩ = false := row_thaw HR1.out 7
  go_wp2_with fail
  have hua := val_upd8 w1 g (.int .i64 0) (.string ⟨#[]⟩) (.bool false) (.int .u64 0) (.slice none 0 0) (.slice none 0 0) (.string ⟨#[]⟩) (.string ⟨#[]⟩)
  refine body_cell2v rfl rfl (load_val (val_set8 HR1.out _ _ _ _ _ _ _ _) rfl) rfl ?_
  refine ⟨HB1.out.trans (hua.below (by have := HB1.out.size; omega) (fun k _ h => by have h : k = g := h; omega)), ?_⟩
  rw [HBR.out]
  obtain ⟨ws, he⟩ := HEW.out
  exact ⟨_, q, rfl, hq, ws, isErr_upd hua (fun k hk b m e h => by have hk : k = g := hk; subst hk; rw [HR1.out] at h; simp at h) he⟩
 | ok xu =>
  obtain ⟨o, u⟩ := xu
  rw [hb] at hcase
  obtain ⟨rfl, P', ⟨v, h1, h2, rfl⟩, hp⟩ := hcase
  obtain ⟨ao, cap, rfl⟩ := own_slice h2
  have hd0 := (mread_depth hb).1
  have hle := one_le hb
  have hXl : X.data.toList.length = X.size := by simp
  have HBR : Hid (vread (f + 1) X.data.toList d = match stands (vread f) (kread f) o (d - 1) [] with | .error c => .error c | .ok x => .ok (x.withUnk u)) := Lib.hid (by rw [HRD.out, hb]; exact stands_unk _ _ _ _ _)
  have HO1 := Lib.hid h1
  have q1 : IntKind.i64.wrap (d - 1) = d - 1 := IntWalk.i64_in _ (by omega)
  have hst : Calls Tryz.prog 172 #[.agg #[.int .i64 (o.r.num : Int), .int .i64 (o.r.ty : Int), .int .u64 (o.r.n : Int), .string ⟨o.r.s.toArray⟩, .string ⟨o.r.raw.toArray⟩, .slice ao o.ps.length cap], .int .i64 (d - 1)] w1 (SPost (stands (vread f) (kread f) o (d - 1) []) w1) := by
   exact stands_any o _ (d - 1) (g + 1 + 1) _ _ w1 (Lib.hid h2) (by omega) (by omega) (by omega) (Lib.hid (fun Y w' h => hvr.out Y _ w' (by omega) (by omega))) (Lib.hid (fun Y w' h => hkr.out Y _ w' (by omega) (by omega)))
  have HST := Lib.hid hst
  have ho0 : w1.cell? ⟨g + 1, 0, none⟩ = some (.int .i64 (o.r.num : Int)) := row_cell h1 (j := 0) rfl
  have ho1 : w1.cell? ⟨g + 1, 1, none⟩ = some (.int .i64 (o.r.ty : Int)) := row_cell h1 (j := 1) rfl
  have ho2 : w1.cell? ⟨g + 1, 2, none⟩ = some (.int .u64 (o.r.n : Int)) := row_cell h1 (j := 2) rfl
  have ho3 : w1.cell? ⟨g + 1, 3, none⟩ = some (.string ⟨o.r.s.toArray⟩) := row_cell h1 (j := 3) rfl
  have ho4 : w1.cell? ⟨g + 1, 4, none⟩ = some (.string ⟨o.r.raw.toArray⟩) := row_cell h1 (j := 4) rfl
  have ho5 : w1.cell? ⟨g + 1, 5, none⟩ = some (.slice ao o.ps.length cap) := row_cell h1 (j := 5) rfl
  clear hb h1 h2 hp hst hd0 hle hXl
  go_wp2_with fail
  refine HST.out.mono ?_; intro e w2 hpost
  obtain ⟨hb2, hcase⟩ := hpost
  have HR2 := Lib.hid ((hb2.block g (row_lt HR1.out)).trans HR1.out)
  have HO2 := Lib.hid ((hb2.block _ (row_lt HO1.out)).trans HO1.out)
  have HB2 := Lib.hid (below_step HB1.out hb2)
  have HS1 := Lib.hid hb2.size
  clear hb2 ho0 ho1 ho2 ho3 ho4 ho5 q1
  cases hs : stands (vread f) (kread f) o (d - 1) [] with
  | error c =>
   rw [hs] at hcase
   obtain ⟨k, y, rfl, hec⟩ := hcase
   obtain ⟨T', z, rfl⟩ := hec.iface
   have HBE : Hid (vread (f + 1) X.data.toList d = .error c) := Lib.hid (by rw [HBR.out, hs])
   have HEC := Lib.hid hec
   clear hec hs
   obtain ⟨W3, hW3⟩ : ∃ W, w2.alloc (.cells #[.int .i64 k, .string ⟨#[]⟩, .bool false, .int .u64 0, .slice none 0 0, .slice none 0 0, .string ⟨#[]⟩, .string ⟨#[]⟩] 77) = W := ⟨_, rfl⟩
   have HB3 : Hid (Below w.heap.size w W3) := Lib.hid (by rw [← hW3]; exact below_step HB2.out (below_new _ _))
   have HR3 : Hid (W3.heap[g]? = some (.cells #[.int .i64 0, .string ⟨#[]⟩, .bool false, .int .u64 0, .slice none 0 0, .slice none 0 0, .string ⟨#[]⟩, .string ⟨#[]⟩] 77 (0, 0))) := Lib.hid (by rw [← hW3]; exact (Below.heap_alloc _ _ _ (row_lt HR2.out)).trans HR2.out)
   have ho0 : W3.cell? ⟨g + 1, 0, none⟩ = some (.int .i64 (o.r.num : Int)) := by rw [← hW3]; exact row_cell ((Below.heap_alloc _ _ _ (row_lt HO2.out)).trans HO2.out) (j := 0) rfl
   have HEC3 : Hid (EC W3 (.iface T' z) c) := Lib.hid (by rw [← hW3]; exact HEC.out.below (below_new _ _))
   have HW3 := Lib.hid hW3
   rw [← hW3] at ho0
   clear hW3
   go_wp2_with fail
   rw [HW3.out]
   refine (in_any _ _ _ _).mono ?_; rintro e w' ⟨rfl, rfl⟩
   have HEC4 := Lib.hid (ec_field (n := (o.r.num : Int)) HEC3.out)
   have HB4 := Lib.hid (below_step HB3.out (below_new W3 (.cells #[.int .i64 (o.r.num : Int), .iface T' z] 133)))
   have HR4 := Lib.hid ((Below.heap_alloc W3 (.cells #[.int .i64 (o.r.num : Int), .iface T' z] 133) _ (row_lt HR3.out)).trans HR3.out)
   obtain ⟨W4, hW4⟩ : ∃ W, W3.alloc (.cells #[.int .i64 (o.r.num : Int), .iface T' z] 133) = W := ⟨_, rfl⟩
   obtain ⟨v4, hv4⟩ : ∃ v, (Value.pointer (some ⟨W3.heap.size, 0, none⟩)) = v := ⟨_, rfl⟩
   rw [hW4, hv4] at HEC4
   rw [hW4] at HB4 HR4
   rw [hW4, hv4]
   clear hW4 hv4 ho0
   go_wp2_with fail
   refine (at_any _ _ _ _).mono ?_; rintro e w' ⟨rfl, rfl⟩
   have HEW5 := Lib.hid (vew_at (q := 0) HEC4.out)
   obtain ⟨W5, hW5⟩ : ∃ W, W4.alloc (.cells #[.int .i64 0, .iface 131 v4] 157) = W := ⟨_, rfl⟩
   have HB5 : Hid (Below w.heap.size w W5) := Lib.hid (by rw [← hW5]; exact below_step HB4.out (below_new _ _))
   have HR5 : Hid (W5.heap[g]? = some (.cells #[.int .i64 0, .string ⟨#[]⟩, .bool false, .int .u64 0, .slice none 0 0, .slice none 0 0, .string ⟨#[]⟩, .string ⟨#[]⟩] 77 (0, 0))) := Lib.hid (by rw [← hW5]; exact (Below.heap_alloc _ _ _ (row_lt HR4.out)).trans HR4.out)
   have HEW6 : Hid (EW W5 (.iface 154 (.pointer (some ⟨W4.heap.size, 0, none⟩))) 0 c) := Lib.hid (by rw [← hW5]; exact HEW5.out)
   obtain ⟨v5, hv5⟩ : ∃ v, (Value.pointer (some ⟨W4.heap.size, 0, none⟩)) = v := ⟨_, rfl⟩
   rw [hv5] at HEW6
   rw [hW5, hv5]
   clear hW5 hv5 HEW5
   have hg0 : W5.cell? ⟨g, 0, none⟩ = some (.int .i64 0) := row_cell HR5.out (j := 0) rfl
   have fg0 : W5.frozen? ⟨g, 0, none⟩ = false := row_thaw HR5.out 0
   have hg1 : W5.cell? ⟨g, 1, none⟩ = some (.string ⟨#[]⟩) := row_cell HR5.out (j := 1) rfl
   have fg1 : W5.frozen? ⟨g, 1, none⟩ = false := row_thaw HR5.out 1
   have hg2 : W5.cell? ⟨g, 2, none⟩ = some (.bool false) := row_cell HR5.out (j := 2) rfl
   have fg2 : W5.frozen? ⟨g, 2, none⟩ = false := row_thaw HR5.out 2
   have hg3 : W5.cell? ⟨g, 3, none⟩ = some (.int .u64 0) := row_cell HR5.out (j := 3) rfl
   have fg3 : W5.frozen? ⟨g, 3, none⟩ = false := row_thaw HR5.out 3
   have hg4 : W5.cell? ⟨g, 4, none⟩ = some (.slice none 0 0) := row_cell HR5.out (j := 4) rfl
   have fg4 : W5.frozen? ⟨g, 4, none⟩ = false := row_thaw HR5.out 4
   have hg5 : W5.cell? ⟨g, 5, none⟩ = some (.slice none 0 0) := row_cell HR5.out (j := 5) rfl
   have fg5 : W5.frozen? ⟨g, 5, none⟩ = false := row_thaw HR5.out 5
   have hg6 : W5.cell? ⟨g, 6, none⟩ = some (.string ⟨#[]⟩) := row_cell HR5.out (j := 6) rfl
   have fg6 : W5.frozen? ⟨g, 6, none⟩ = false := row_thaw HR5.out 6
   have hg7 : W5.cell? ⟨g, 7, none⟩ = some (.string ⟨#[]⟩) := row_cell HR5.out (j := 7) rfl
   have fg7 : W5.frozen? ⟨g, 7, none⟩ = false := row_thaw HR5.out 7
   go_wp2_with fail
   have hua := val_upd8 W5 g (.int .i64 0) (.string ⟨#[]⟩) (.bool false) (.int .u64 0) (.slice none 0 0) (.slice none 0 0) (.string ⟨#[]⟩) (.string ⟨#[]⟩)
   refine body_cell2v rfl rfl (load_val (val_set8 HR5.out _ _ _ _ _ _ _ _) rfl) rfl ?_
   refine ⟨HB5.out.trans (hua.below (by have := HB5.out.size; omega) (fun k _ h => by have h : k = g := h; have := HGG.out; omega)), ?_⟩
   rw [HBE.out]
   obtain ⟨ws, he⟩ := HEW6.out
   exact ⟨_, 0, rfl, by omega, ws, isErr_upd hua (fun k hk b m e h => by have hk : k = g := hk; subst hk; rw [HR5.out] at h; simp at h) he⟩
  | ok x =>
   rw [hs] at hcase
   obtain ⟨cs, rfl, hrel⟩ := hcase
   have HBE : Hid (vread (f + 1) X.data.toList d = .ok (x.withUnk u)) := Lib.hid (by rw [HBR.out, hs])
   have HREL := Lib.hid hrel
   obtain ⟨k, S, b0, n, lo, ln, lc, mo, mn, mc, I, U, hcs⟩ := hrel.form
   have HCS := Lib.hid hcs
   rw [hcs]
   clear hcs hrel hs
   go_upto_region 9 with fail
   obtain ⟨W3, hW3⟩ : ∃ W, w2.alloc (.cells #[.int .i64 k, .string S, .bool b0, .int .u64 n, .slice lo ln lc, .slice mo mn mc, .string I, .string ⟨u.toArray⟩] 77) = W := ⟨_, rfl⟩
   have HB3 : Hid (Below w.heap.size w W3) := Lib.hid (by rw [← hW3]; exact below_step HB2.out (below_new _ _))
   have HR3 : Hid (W3.heap[g]? = some (.cells #[.int .i64 0, .string ⟨#[]⟩, .bool false, .int .u64 0, .slice none 0 0, .slice none 0 0, .string ⟨#[]⟩, .string ⟨#[]⟩] 77 (0, 0))) := Lib.hid (by rw [← hW3]; exact (Below.heap_alloc _ _ _ (row_lt HR2.out)).trans HR2.out)
   obtain ⟨gx, hgx⟩ : ∃ gx, w2.heap.size = gx := ⟨_, rfl⟩
   have HX3 : Hid (W3.heap[gx]? = some (.cells #[.int .i64 k, .string S, .bool b0, .int .u64 n, .slice lo ln lc, .slice mo mn mc, .string I, .string ⟨u.toArray⟩] 77 (0, 0))) := Lib.hid (by rw [← hW3, ← hgx]; exact heap_alloc_new _ _)
   have HU3 : Hid (Upd (fun _ => False) w2 W3) := Lib.hid (by rw [← hW3]; exact Upd.alloc _ _ _)
   rw [hW3, hgx]
   have hgg : g ≠ gx := by have := row_lt HR2.out; omega
   clear hW3 hgx
   have hg0 : W3.cell? ⟨g, 0, none⟩ = some (.int .i64 0) := row_cell HR3.out (j := 0) rfl
   have fg0 : W3.frozen? ⟨g, 0, none⟩ = false := row_thaw HR3.out 0
   have hg1 : W3.cell? ⟨g, 1, none⟩ = some (.string ⟨#[]⟩) := row_cell HR3.out (j := 1) rfl
   have fg1 : W3.frozen? ⟨g, 1, none⟩ = false := row_thaw HR3.out 1
   have hg2 : W3.cell? ⟨g, 2, none⟩ = some (.bool false) := row_cell HR3.out (j := 2) rfl
   have fg2 : W3.frozen? ⟨g, 2, none⟩ = false := row_thaw HR3.out 2
   have hg3 : W3.cell? ⟨g, 3, none⟩ = some (.int .u64 0) := row_cell HR3.out (j := 3) rfl
   have fg3 : W3.frozen? ⟨g, 3, none⟩ = false := row_thaw HR3.out 3
   have hg4 : W3.cell? ⟨g, 4, none⟩ = some (.slice none 0 0) := row_cell HR3.out (j := 4) rfl
   have fg4 : W3.frozen? ⟨g, 4, none⟩ = false := row_thaw HR3.out 4
   have hg5 : W3.cell? ⟨g, 5, none⟩ = some (.slice none 0 0) := row_cell HR3.out (j := 5) rfl
   have fg5 : W3.frozen? ⟨g, 5, none⟩ = false := row_thaw HR3.out 5
   have hg6 : W3.cell? ⟨g, 6, none⟩ = some (.string ⟨#[]⟩) := row_cell HR3.out (j := 6) rfl
   have fg6 : W3.frozen? ⟨g, 6, none⟩ = false := row_thaw HR3.out 6
   have hg7 : W3.cell? ⟨g, 7, none⟩ = some (.string ⟨#[]⟩) := row_cell HR3.out (j := 7) rfl
   have fg7 : W3.frozen? ⟨g, 7, none⟩ = false := row_thaw HR3.out 7
   have hy0 : W3.cell? ⟨gx, 0, none⟩ = some (.int .i64 k) := row_cell HX3.out (j := 0) rfl
   have hy1 : W3.cell? ⟨gx, 1, none⟩ = some (.string S) := row_cell HX3.out (j := 1) rfl
   have hy2 : W3.cell? ⟨gx, 2, none⟩ = some (.bool b0) := row_cell HX3.out (j := 2) rfl
   have hy3 : W3.cell? ⟨gx, 3, none⟩ = some (.int .u64 n) := row_cell HX3.out (j := 3) rfl
   have hy4 : W3.cell? ⟨gx, 4, none⟩ = some (.slice lo ln lc) := row_cell HX3.out (j := 4) rfl
   have hy5 : W3.cell? ⟨gx, 5, none⟩ = some (.slice mo mn mc) := row_cell HX3.out (j := 5) rfl
   have hy6 : W3.cell? ⟨gx, 6, none⟩ = some (.string I) := row_cell HX3.out (j := 6) rfl
   have hy7 : W3.cell? ⟨gx, 7, none⟩ = some (.string ⟨u.toArray⟩) := row_cell HX3.out (j := 7) rfl
   go_wp2_with fail
   have hua := val_upd8 W3 g (.int .i64 k) (.string S) (.bool b0) (.int .u64 n) (.slice lo ln lc) (.slice mo mn mc) (.string I) (.string ⟨u.toArray⟩)
   refine body_cell2v rfl rfl (load_val (val_set8 HR3.out _ _ _ _ _ _ _ _) rfl) rfl ?_
   refine ⟨HB3.out.trans (hua.below (by have := HB3.out.size; omega) (fun k _ h => by have h : k = g := h; have := HGG.out; omega)), ?_⟩
   rw [HBE.out]
   have h9 := VRel.unk (u := u) HREL.out
   rw [HCS.out] at h9
   refine ⟨_, rfl, VRel.upd hua (fun k hk h => ?_) (fun k hk => ?_) _ _ (VRel.upd HU3.out (fun _ _ h => h) (fun k hk => hk) _ _ h9)⟩
   ·have h : k = g := h
    have := HB1.out.size
    have := row_lt HR1.out
    omega
   ·have := HB1.out.size
    omega
open Go.RowKit
def keyRow (key : List UInt8) : Array Value := #[strV key, .bool false, .int .i64 0, .string ⟨#[]⟩, .bool false, .int .u64 0, .slice none 0 0, .slice none 0 0, .string ⟨#[]⟩, .string ⟨#[]⟩, .string ⟨#[]⟩]
def KeyAt (bx bp : Nat) (st : List UInt8 × List (List UInt8)) (P : Nat → Prop) (w : World) : Prop := bx < bp ∧ ∃ v, w.heap[bx]? = some (.cells (keyRow st.1) 79 (0, 0)) ∧ w.heap[bp]? = some (.cells #[v] 55 (0, 0)) ∧ w.ownsRow (bp + 1) 9 1 v st.2.length (st.2.map strV) ∧ P = fun k => k = bx ∨ k = bp ∨ v.ownBlock = some k
def keyTaker (bx bp : Nat) : Taker (List UInt8 × List (List UInt8)) where
 rel := KeyAt bx bp
 lt := by
  rintro o P w ⟨_, v, h1, h2, h3, rfl⟩ k (rfl | rfl | hk)
  ·exact row_lt h1
  ·exact row_lt h2
  ·exact (h3.lt k hk).2
 kept := by
  rintro o P w w' ⟨h0, v, h1, h2, h3, rfl⟩ hu
  exact ⟨h0, v, (hu.block bx (row_lt h1) (fun h => h (.inl rfl))).trans h1, (hu.block bp (row_lt h2) (fun h => h (.inr (.inl rfl)))).trans h2, hu.own h3 (fun k hk h => h (.inr (.inr hk))), rfl⟩
theorem ktake_any (bx bp : Nat) (r : Rec) (st : List UInt8 × List (List UInt8)) (P : Nat → Prop) (w : World) (hs : r.s.length ≤ 1000000) (hl : st.2.length ≤ 999999) (h : Hid (KeyAt bx bp st P w)) :
  Calls Tryz.prog 131 #[recV r, .pointer (some ⟨bx, 0, none⟩), .pointer (some ⟨bp, 0, none⟩)] w (TakePost (keyTaker bx bp) kstep st P r w) := by
 obtain ⟨h0, v, h1, h2, h3, rfl⟩ := h.out
 have H0 := Lib.hid h0
 have H1 := Lib.hid h1
 have H2 := Lib.hid h2
 have H3 := Lib.hid h3
 have hpw := row_lt h2
 clear h1 h2 h3 h0
 obtain ⟨X, hX⟩ : ∃ X : ByteArray, (⟨r.s.toArray⟩ : ByteArray) = X := ⟨_, rfl⟩
 have hXs : X.size ≤ 1000000 := by rw [← hX]; simp [ByteArray.size]; omega
 have HXD : Hid (X.data.toList = r.s) := Lib.hid (by rw [← hX])
 have HX := Lib.hid hX
 obtain ⟨W0, hW0⟩ : ∃ W0, w.alloc (.cells #[.int .i64 (r.num : Int), .int .i64 (r.ty : Int), .int .u64 (r.n : Int), .string X, .string ⟨r.raw.toArray⟩] 61) = W0 := ⟨_, rfl⟩
 have HU0 : Hid (Upd (fun _ => False) w W0) := Lib.hid (by rw [← hW0]; exact Upd.alloc _ _ _)
 have H10 : Hid (W0.heap[bx]? = some (.cells (keyRow st.1) 79 (0, 0))) := Lib.hid ((HU0.out.block bx (row_lt H1.out) (fun h => h)).trans H1.out)
 have H20 : Hid (W0.heap[bp]? = some (.cells #[v] 55 (0, 0))) := Lib.hid ((HU0.out.block bp (row_lt H2.out) (fun h => h)).trans H2.out)
 have H30 : Hid (W0.ownsRow (bp + 1) 9 1 v st.2.length (st.2.map strV)) := Lib.hid (HU0.out.own H3.out (fun _ _ h => h))
 have HW0 := Lib.hid hW0
 unfold recV
 rw [hX]
 clear hW0 hX
 by_cases hn : r.num = 1
 ·have d1 : ((r.num : Int) == 1) = true := by rw [beq_iff_eq]; omega
  have HT := Lib.hid (text_to (cs := keyRow st.1) (T := 79) bx 0 (strV st.1) X W0 hXs H10 rfl)
  cases hv : uvalid r.s with
  | true =>
   have HS : Hid (kstep st r = .ok (r.s, st.2)) := Lib.hid (by unfold kstep; rw [if_pos hn, if_pos hv])
   have HV : Hid (uvalid X.data.toList = true) := Lib.hid (by rw [HXD.out]; exact hv)
   clear hn hv
   go_enter Tryz.func131, Tryz.ntmps131
   go_wp2_with fail
   rw [HW0.out]
   refine HT.out.mono ?_; intro e w1 hp
   unfold TextPost at hp
   rw [if_pos HV.out] at hp
   obtain ⟨rfl, rfl⟩ := hp
   have hu := Upd.set W0 ⟨bx, 0, none⟩ (.string X)
   have hr := row_set H10.out 0 (.string X)
   obtain ⟨W1, hW1⟩ : ∃ W, W0.setCell ⟨bx, 0, none⟩ (.string X) = W := ⟨_, rfl⟩
   rw [hW1] at hu hr ⊢
   clear hW1
   have HU := Lib.hid hu
   have HR := Lib.hid hr
   clear hu hr
   go_wp2_with fail
   refine (in_nil _ _).mono ?_; rintro e w' ⟨rfl, rfl⟩
   go_wp2_with fail
   go_ret
   refine ⟨(HU0.out.mono fun _ _ h => h.elim).trans (HU.out.mono fun k _ h => .inl h), ?_⟩
   rw [HS.out]
   refine ⟨rfl, _, ⟨H0.out, v, ?_, (HU.out.block bp (row_lt H20.out) (fun e => by have e : bp = bx := e; have := H0.out; omega)).trans H20.out, HU.out.own H30.out (fun k hk e => by have e : k = bx := e; have := (H30.out.lt k hk).1; have := H0.out; omega), rfl⟩, fun k hk => .inl hk⟩
   rw [HR.out]
   unfold keyRow strV
   rw [HX.out]
   rfl
  | false =>
   have HS : Hid (kstep st r = .error 5) := Lib.hid (by unfold kstep; rw [if_pos hn, if_neg (by rw [hv]; simp)])
   have HV : Hid (uvalid X.data.toList = false) := Lib.hid (by rw [HXD.out]; exact hv)
   clear hn hv
   go_enter Tryz.func131, Tryz.ntmps131
   go_wp2_with fail
   rw [HW0.out]
   refine HT.out.mono ?_; intro e w1 hp
   unfold TextPost at hp
   rw [if_neg (fun h => by have := HV.out; rw [h] at this; cases this)] at hp
   obtain ⟨y, rfl, hec, hb⟩ := hp
   obtain ⟨T', z, rfl⟩ := hec.iface
   have HEC := Lib.hid hec
   have HB2 := Lib.hid hb
   clear hec hb
   go_wp2_with fail
   refine (in_any _ _ _ _).mono ?_; rintro e w' ⟨rfl, rfl⟩
   go_wp2_with fail
   go_ret
   refine ⟨((HU0.out.mono fun _ _ h => h.elim).trans (Upd.of_new HB2.out)).trans (Upd.alloc _ _ _), ?_⟩
   rw [HS.out]
   exact ⟨_, rfl, ec_field HEC.out⟩
 ·have d1 : ((r.num : Int) == 1) = false := by rw [beq_eq_false_iff_ne]; omega
  have HS : Hid (kstep st r = .ok (st.1, st.2 ++ [r.s])) := Lib.hid (by unfold kstep; rw [if_neg hn])
  have HPA := Lib.hid (padd_any (cs := #[v]) (T := 55) bp 0 v st.2 (bp + 1) r.s W0 H20 rfl H30 (by omega) (by have := HU0.out.size; omega) (by omega))
  unfold strV at HPA
  rw [HX.out] at HPA
  clear hn
  go_enter Tryz.func131, Tryz.ntmps131
  go_wp2_with fail
  rw [HW0.out]
  refine HPA.out.mono ?_; rintro e w1 ⟨rfl, hu, v', h1, h2, h3⟩
  have HU := Lib.hid hu
  have HA : Hid (KeyAt bx bp (st.1, st.2 ++ [r.s]) (fun k => k = bx ∨ k = bp ∨ v'.ownBlock = some k) w1) := Lib.hid ⟨H0.out, v', (hu.block bx (row_lt H10.out) (fun h => by
   rcases h with h | h
   ·have := H0.out; omega
   ·have := (H30.out.lt bx h).1; have := H0.out; omega)).trans H10.out, h1, h2, rfl⟩
  have HP := Lib.hid h3
  clear hu h1 h2 h3
  go_wp2_with fail
  go_ret
  refine ⟨(HU0.out.mono fun _ _ h => h.elim).trans (HU.out.mono fun k _ h => .inr h), ?_⟩
  rw [HS.out]
  refine ⟨rfl, _, HA.out, fun k hk => ?_⟩
  rcases hk with h | h | h
  ·exact .inl (.inl h)
  ·exact .inl (.inr (.inl h))
  ·rcases HP.out k h with h | h
   ·exact .inl (.inr (.inr h))
   ·exact .inr (Nat.le_trans HU0.out.size h)
open Go.RowKit
def WhPost (ps : List (List UInt8)) (rd : Except Nat Val) (w : World) (e : Ending) (w' : World) : Prop := Below w.heap.size w w' ∧
 if ps = [] then e = .returned (.tuple #[.agg vzero, .bool false, .nilIface]) else match rd with
  | .error c => ∃ y, e = .returned (.tuple #[.agg vzero, .bool false, y]) ∧ EW w' y 0 c
  | .ok x => ∃ cs, e = .returned (.tuple #[.agg cs.toArray, .bool true, .nilIface]) ∧ VRel w' (fun k => w.heap.size ≤ k) x cs
theorem vwhole_any (num d : Int) (v : Value) (ps : List (List UInt8)) (B F : Nat) (vr : List UInt8 → Int → Except Nat Val) (w : World) (hown : Hid (w.ownsRow B 9 1 v ps.length (ps.map strV))) (hl : ps.length ≤ 1000000) (hf : ps.flatten.length ≤ 1000000)
  (hET : ∀ args w, (callFunc F args).run Tryz.prog w = .ok (.enter F args) w) (hvr : Hid (ps ≠ [] → ∀ (Y : ByteArray) w', Y.data.toList = ps.flatten → Calls Tryz.prog F #[.string Y, .int .i64 d] w' (VPost (vr ps.flatten d) Y.size w'))) :
  Calls Tryz.prog 133 #[.agg #[v], .int .i64 num, .int .i64 d, .func (.func F) #[] #[]] w (WhPost ps (vr ps.flatten d) w) := by
 obtain ⟨ao, cap, rfl⟩ := own_slice hown.out
 obtain ⟨g, hg⟩ : ∃ g, w.heap.size = g := ⟨_, rfl⟩
 obtain ⟨W0, hW0⟩ : ∃ W0, ((w.alloc (.cells #[.slice ao ps.length cap] 55)).alloc (.cells #[.int .i64 0, .string ⟨#[]⟩, .bool false, .int .u64 0, .slice none 0 0, .slice none 0 0, .string ⟨#[]⟩, .string ⟨#[]⟩] 77)).alloc (.cells #[.int .i64 0, .string ⟨#[]⟩, .bool false, .int .u64 0, .slice none 0 0, .slice none 0 0, .string ⟨#[]⟩, .string ⟨#[]⟩] 77) = W0 := ⟨_, rfl⟩
 have HB0 : Hid (Below w.heap.size w W0) := Lib.hid (by rw [← hW0]; exact below_step (below_step (below_new _ _) (below_new _ _)) (below_new _ _))
 have hthree : W0.heap[g]? = some (.cells #[.slice ao ps.length cap] 55 (0, 0)) ∧ W0.heap[g + 1]? = some (.cells #[.int .i64 0, .string ⟨#[]⟩, .bool false, .int .u64 0, .slice none 0 0, .slice none 0 0, .string ⟨#[]⟩, .string ⟨#[]⟩] 77 (0, 0)) ∧ W0.heap[g + 2]? = some (.cells #[.int .i64 0, .string ⟨#[]⟩, .bool false, .int .u64 0, .slice none 0 0, .slice none 0 0, .string ⟨#[]⟩, .string ⟨#[]⟩] 77 (0, 0)) := by rw [← hW0]; exact new_three_c hg _ _ _
 have HP := Lib.hid hthree.1
 have HA := Lib.hid hthree.2.1
 have HC := Lib.hid hthree.2.2
 have HO0 : Hid (W0.ownsRow B 9 1 (.slice ao ps.length cap) ps.length (ps.map strV)) := Lib.hid (own_below hown.out HB0.out)
 have HW0 := Lib.hid hW0
 have HG := Lib.hid hg
 clear hW0 hthree
 by_cases h0 : ps = []
 ·have HPS : Hid (ps = []) := Lib.hid h0
  have d0 : decide (0 < ps.length) = false := decide_eq_false (by rw [h0]; simp)
  clear h0
  go_enter Tryz.func133, Tryz.ntmps133
  go_wp2_with fail
  rw [HW0.out]
  refine (phas_any (cs := #[.slice ao ps.length cap]) (T := 55) g 0 ao ps.length cap W0 HP rfl).mono ?_; rintro e w' ⟨rfl, rfl⟩
  rw [d0]
  have hc0 : W0.cell? ⟨g + 2, 0, none⟩ = some (.int .i64 0) := row_cell HC.out (j := 0) rfl
  have hc1 : W0.cell? ⟨g + 2, 1, none⟩ = some (.string ⟨#[]⟩) := row_cell HC.out (j := 1) rfl
  have hc2 : W0.cell? ⟨g + 2, 2, none⟩ = some (.bool false) := row_cell HC.out (j := 2) rfl
  have hc3 : W0.cell? ⟨g + 2, 3, none⟩ = some (.int .u64 0) := row_cell HC.out (j := 3) rfl
  have hc4 : W0.cell? ⟨g + 2, 4, none⟩ = some (.slice none 0 0) := row_cell HC.out (j := 4) rfl
  have hc5 : W0.cell? ⟨g + 2, 5, none⟩ = some (.slice none 0 0) := row_cell HC.out (j := 5) rfl
  have hc6 : W0.cell? ⟨g + 2, 6, none⟩ = some (.string ⟨#[]⟩) := row_cell HC.out (j := 6) rfl
  have hc7 : W0.cell? ⟨g + 2, 7, none⟩ = some (.string ⟨#[]⟩) := row_cell HC.out (j := 7) rfl
  have ha0 : W0.cell? ⟨g + 1, 0, none⟩ = some (.int .i64 0) := row_cell HA.out (j := 0) rfl
  have fa0 : W0.frozen? ⟨g + 1, 0, none⟩ = false := row_thaw HA.out 0
  have ha1 : W0.cell? ⟨g + 1, 1, none⟩ = some (.string ⟨#[]⟩) := row_cell HA.out (j := 1) rfl
  have fa1 : W0.frozen? ⟨g + 1, 1, none⟩ = false := row_thaw HA.out 1
  have ha2 : W0.cell? ⟨g + 1, 2, none⟩ = some (.bool false) := row_cell HA.out (j := 2) rfl
  have fa2 : W0.frozen? ⟨g + 1, 2, none⟩ = false := row_thaw HA.out 2
  have ha3 : W0.cell? ⟨g + 1, 3, none⟩ = some (.int .u64 0) := row_cell HA.out (j := 3) rfl
  have fa3 : W0.frozen? ⟨g + 1, 3, none⟩ = false := row_thaw HA.out 3
  have ha4 : W0.cell? ⟨g + 1, 4, none⟩ = some (.slice none 0 0) := row_cell HA.out (j := 4) rfl
  have fa4 : W0.frozen? ⟨g + 1, 4, none⟩ = false := row_thaw HA.out 4
  have ha5 : W0.cell? ⟨g + 1, 5, none⟩ = some (.slice none 0 0) := row_cell HA.out (j := 5) rfl
  have fa5 : W0.frozen? ⟨g + 1, 5, none⟩ = false := row_thaw HA.out 5
  have ha6 : W0.cell? ⟨g + 1, 6, none⟩ = some (.string ⟨#[]⟩) := row_cell HA.out (j := 6) rfl
  have fa6 : W0.frozen? ⟨g + 1, 6, none⟩ = false := row_thaw HA.out 6
  have ha7 : W0.cell? ⟨g + 1, 7, none⟩ = some (.string ⟨#[]⟩) := row_cell HA.out (j := 7) rfl
  have fa7 : W0.frozen? ⟨g + 1, 7, none⟩ = false := row_thaw HA.out 7
  go_wp2_with fail
  have hua := val_upd8 W0 (g + 1) (.int .i64 0) (.string ⟨#[]⟩) (.bool false) (.int .u64 0) (.slice none 0 0) (.slice none 0 0) (.string ⟨#[]⟩) (.string ⟨#[]⟩)
  refine body_cell3 rfl rfl (load_val (val_set8 HA.out _ _ _ _ _ _ _ _) rfl) rfl ?_
  refine ⟨HB0.out.trans (hua.below (by have := HB0.out.size; omega) (fun k _ h => by have h : k = g + 1 := h; have := HG.out; omega)), ?_⟩
  rw [if_pos HPS.out]
  exact rfl
 ·have HPS : Hid (¬ ps = []) := Lib.hid h0
  have d0 : decide (0 < ps.length) = true := decide_eq_true (List.length_pos_iff.2 h0)
  clear h0
  go_enter Tryz.func133, Tryz.ntmps133
  go_wp2_with fail
  rw [HW0.out]
  refine (phas_any (cs := #[.slice ao ps.length cap]) (T := 55) g 0 ao ps.length cap W0 HP rfl).mono ?_; rintro e w' ⟨rfl, rfl⟩
  rw [d0]
  go_wp2_with fail
  refine (pbytes_any (cs := #[.slice ao ps.length cap]) (T := 55) g 0 _ ps B W0 HP rfl HO0 (by omega) (by omega)).mono ?_; rintro e w1 ⟨rfl, hb1⟩
  have HB1 := Lib.hid (HB0.out.trans (hb1.mono HB0.out.size))
  have HA1 : Hid (w1.heap[g + 1]? = some (.cells #[.int .i64 0, .string ⟨#[]⟩, .bool false, .int .u64 0, .slice none 0 0, .slice none 0 0, .string ⟨#[]⟩, .string ⟨#[]⟩] 77 (0, 0))) := Lib.hid ((hb1.block _ (row_lt HA.out)).trans HA.out)
  have HC1 : Hid (w1.heap[g + 2]? = some (.cells #[.int .i64 0, .string ⟨#[]⟩, .bool false, .int .u64 0, .slice none 0 0, .slice none 0 0, .string ⟨#[]⟩, .string ⟨#[]⟩] 77 (0, 0))) := Lib.hid ((hb1.block _ (row_lt HC.out)).trans HC.out)
  obtain ⟨X, hX⟩ : ∃ X : ByteArray, (⟨ps.flatten.toArray⟩ : ByteArray) = X := ⟨_, rfl⟩
  have hXs : X.size = ps.flatten.length := by rw [← hX]; simp [ByteArray.size]
  have HV := Lib.hid (hvr.out HPS.out X w1 (by rw [← hX]))
  rw [hX]
  clear hb1 hX
  go_wp2_with fail
  refine HV.out.mono ?_; intro e w2 hpost
  obtain ⟨hb2, hcase⟩ := hpost
  have HB2 := Lib.hid (HB1.out.trans (hb2.mono HB1.out.size))
  have HA2 : Hid (w2.heap[g + 1]? = some (.cells #[.int .i64 0, .string ⟨#[]⟩, .bool false, .int .u64 0, .slice none 0 0, .slice none 0 0, .string ⟨#[]⟩, .string ⟨#[]⟩] 77 (0, 0))) := Lib.hid ((hb2.block _ (row_lt HA1.out)).trans HA1.out)
  have HC2 : Hid (w2.heap[g + 2]? = some (.cells #[.int .i64 0, .string ⟨#[]⟩, .bool false, .int .u64 0, .slice none 0 0, .slice none 0 0, .string ⟨#[]⟩, .string ⟨#[]⟩] 77 (0, 0))) := Lib.hid ((hb2.block _ (row_lt HC1.out)).trans HC1.out)
  have HS1 : Hid (g + 1 < w1.heap.size) := Lib.hid (row_lt HA1.out)
  have HS0 := Lib.hid HB1.out.size
  clear hb2
  cases hrd : vr ps.flatten d with
  | error c =>
   rw [hrd] at hcase
   obtain ⟨v', q, rfl, hq, hew⟩ := hcase
   obtain ⟨T', y, rfl⟩ := hew.iface
   have HEC := Lib.hid hew.ec
   have HRR := Lib.hid hrd
   clear hew hrd hq
   unfold vzero
   go_wp2_with fail
   obtain ⟨W3, hW3⟩ : ∃ W, w2.alloc (.cells #[.int .i64 0, .string ⟨#[]⟩, .bool false, .int .u64 0, .slice none 0 0, .slice none 0 0, .string ⟨#[]⟩, .string ⟨#[]⟩] 77) = W := ⟨_, rfl⟩
   have HB3 : Hid (Below w2.heap.size w2 W3) := Lib.hid (by rw [← hW3]; exact below_new _ _)
   rw [hW3]
   clear hW3
   obtain ⟨D, hD⟩ : ∃ D, W3.drew = D := ⟨_, rfl⟩
   have HBD : Hid (Below w2.heap.size w2 D) := Lib.hid (by rw [← hD]; exact HB3.out.drew)
   have HCD : Hid (D.heap[g + 2]? = some (.cells #[.int .i64 0, .string ⟨#[]⟩, .bool false, .int .u64 0, .slice none 0 0, .slice none 0 0, .string ⟨#[]⟩, .string ⟨#[]⟩] 77 (0, 0))) := Lib.hid ((HBD.out.block _ (row_lt HC2.out)).trans HC2.out)
   have HAD : Hid (D.heap[g + 1]? = some (.cells #[.int .i64 0, .string ⟨#[]⟩, .bool false, .int .u64 0, .slice none 0 0, .slice none 0 0, .string ⟨#[]⟩, .string ⟨#[]⟩] 77 (0, 0))) := Lib.hid ((HBD.out.block _ (row_lt HA2.out)).trans HA2.out)
   have hne : Nonempty {w' : World // w'.heap[g + 2]? = some (.cells #[.int .i64 0, .string ⟨#[]⟩, .bool false, .int .u64 0, .slice none 0 0, .slice none 0 0, .string ⟨#[]⟩, .string ⟨#[]⟩] 77 (0, 0))} := ⟨⟨_, HCD.out⟩⟩
   refine wp_region_seq (S := fun w' => w'.heap[g + 2]? = some (.cells #[.int .i64 0, .string ⟨#[]⟩, .bool false, .int .u64 0, .slice none 0 0, .slice none 0 0, .string ⟨#[]⟩, .string ⟨#[]⟩] 77 (0, 0))) [(0, true), (1, true), (2, true), (3, false), (4, false), (5, false), (6, true), (7, true)] (by kernel_rfl) (by kernel_rfl) (by kernel_rfl) (by kernel_rfl) (by rw [hD]; exact HCD.out) ?_
   rw [hD]
   clear hD
   iterate 1 (refine seq_take _ rfl (fun K hK => ?_); go_simp; (refine ⟨.agg #[.int .i64 0, .string ⟨#[]⟩, .bool false, .int .u64 0, .slice none 0 0, .slice none 0 0, .string ⟨#[]⟩, .string ⟨#[]⟩], fun a ha => by (have e0 : a.cell? ⟨g + 2, 0, none⟩ = some (.int .i64 0) := row_cell ha (j := 0) rfl); (have e1 : a.cell? ⟨g + 2, 1, none⟩ = some (.string ⟨#[]⟩) := row_cell ha (j := 1) rfl); (have e2 : a.cell? ⟨g + 2, 2, none⟩ = some (.bool false) := row_cell ha (j := 2) rfl); (have e3 : a.cell? ⟨g + 2, 3, none⟩ = some (.int .u64 0) := row_cell ha (j := 3) rfl); (have e4 : a.cell? ⟨g + 2, 4, none⟩ = some (.slice none 0 0) := row_cell ha (j := 4) rfl); (have e5 : a.cell? ⟨g + 2, 5, none⟩ = some (.slice none 0 0) := row_cell ha (j := 5) rfl); (have e6 : a.cell? ⟨g + 2, 6, none⟩ = some (.string ⟨#[]⟩) := row_cell ha (j := 6) rfl); (have e7 : a.cell? ⟨g + 2, 7, none⟩ = some (.string ⟨#[]⟩) := row_cell ha (j := 7) rfl); simp only [e0, e1, e2, e3, e4, e5, e6, e7, Result.andThen], hK _ ?_⟩); clear hK K)
   iterate 2 (refine seq_take _ rfl (fun K hK => ?_); go_simp; (first | refine hK _ ?_ | refine ⟨_, fun _ _ => rfl, hK _ ?_⟩); clear hK K)
   refine seq_come _ rfl (fun K hK => ?_); go_simp
   refine (in_any _ _ _ _).mono ?_; rintro e w' ⟨rfl, rfl⟩
   have HEC4 := Lib.hid (ec_field (n := num) (HEC.out.below HBD.out))
   obtain ⟨W4, hW4⟩ : ∃ W, D.alloc (.cells #[.int .i64 num, .iface T' y] 133) = W := ⟨_, rfl⟩
   obtain ⟨v4, hv4⟩ : ∃ v, (Value.pointer (some ⟨D.heap.size, 0, none⟩)) = v := ⟨_, rfl⟩
   have HB4 : Hid (Below D.heap.size D W4) := Lib.hid (by rw [← hW4]; exact below_new _ _)
   rw [hW4, hv4] at HEC4
   rw [hW4, hv4]
   clear hW4 hv4
   have HC4 : Hid (W4.heap[g + 2]? = some (.cells #[.int .i64 0, .string ⟨#[]⟩, .bool false, .int .u64 0, .slice none 0 0, .slice none 0 0, .string ⟨#[]⟩, .string ⟨#[]⟩] 77 (0, 0))) := Lib.hid ((HB4.out.block _ (row_lt HCD.out)).trans HCD.out)
   have HA4 : Hid (W4.heap[g + 1]? = some (.cells #[.int .i64 0, .string ⟨#[]⟩, .bool false, .int .u64 0, .slice none 0 0, .slice none 0 0, .string ⟨#[]⟩, .string ⟨#[]⟩] 77 (0, 0))) := Lib.hid ((HB4.out.block _ (row_lt HAD.out)).trans HAD.out)
   go_simp; refine hK.out _ _ HC4.out ?_; clear hK K
   refine seq_come _ rfl (fun K hK => ?_); go_simp
   refine (at_any _ _ _ _).mono ?_; rintro e w' ⟨rfl, rfl⟩
   have HEW5 := Lib.hid (vew_at (q := 0) HEC4.out)
   obtain ⟨W5, hW5⟩ : ∃ W, W4.alloc (.cells #[.int .i64 0, .iface 131 v4] 157) = W := ⟨_, rfl⟩
   have HEW6 : Hid (EW W5 (.iface 154 (.pointer (some ⟨W4.heap.size, 0, none⟩))) 0 c) := Lib.hid (by rw [← hW5]; exact HEW5.out)
   have HB5 : Hid (Below W4.heap.size W4 W5) := Lib.hid (by rw [← hW5]; exact below_new _ _)
   obtain ⟨v5, hv5⟩ : ∃ v, (Value.pointer (some ⟨W4.heap.size, 0, none⟩)) = v := ⟨_, rfl⟩
   rw [hv5] at HEW6
   rw [hW5, hv5]
   clear hW5 hv5 HEW5
   have HC5 : Hid (W5.heap[g + 2]? = some (.cells #[.int .i64 0, .string ⟨#[]⟩, .bool false, .int .u64 0, .slice none 0 0, .slice none 0 0, .string ⟨#[]⟩, .string ⟨#[]⟩] 77 (0, 0))) := Lib.hid ((HB5.out.block _ (row_lt HC4.out)).trans HC4.out)
   have HA5 : Hid (W5.heap[g + 1]? = some (.cells #[.int .i64 0, .string ⟨#[]⟩, .bool false, .int .u64 0, .slice none 0 0, .slice none 0 0, .string ⟨#[]⟩, .string ⟨#[]⟩] 77 (0, 0))) := Lib.hid ((HB5.out.block _ (row_lt HA4.out)).trans HA4.out)
   have HBW5 : Hid (Below w.heap.size w W5) := Lib.hid (below_step (below_step (below_step HB2.out HBD.out) HB4.out) HB5.out)
   go_simp; refine hK.out _ _ HC5.out ?_; clear hK K
   have ha0 : W5.cell? ⟨g + 1, 0, none⟩ = some (.int .i64 0) := row_cell HA5.out (j := 0) rfl
   have fa0 : W5.frozen? ⟨g + 1, 0, none⟩ = false := row_thaw HA5.out 0
   have ha1 : W5.cell? ⟨g + 1, 1, none⟩ = some (.string ⟨#[]⟩) := row_cell HA5.out (j := 1) rfl
   have fa1 : W5.frozen? ⟨g + 1, 1, none⟩ = false := row_thaw HA5.out 1
   have ha2 : W5.cell? ⟨g + 1, 2, none⟩ = some (.bool false) := row_cell HA5.out (j := 2) rfl
   have fa2 : W5.frozen? ⟨g + 1, 2, none⟩ = false := row_thaw HA5.out 2
   have ha3 : W5.cell? ⟨g + 1, 3, none⟩ = some (.int .u64 0) := row_cell HA5.out (j := 3) rfl
   have fa3 : W5.frozen? ⟨g + 1, 3, none⟩ = false := row_thaw HA5.out 3
   have ha4 : W5.cell? ⟨g + 1, 4, none⟩ = some (.slice none 0 0) := row_cell HA5.out (j := 4) rfl
   have fa4 : W5.frozen? ⟨g + 1, 4, none⟩ = false := row_thaw HA5.out 4
   have ha5 : W5.cell? ⟨g + 1, 5, none⟩ = some (.slice none 0 0) := row_cell HA5.out (j := 5) rfl
   have fa5 : W5.frozen? ⟨g + 1, 5, none⟩ = false := row_thaw HA5.out 5
   have ha6 : W5.cell? ⟨g + 1, 6, none⟩ = some (.string ⟨#[]⟩) := row_cell HA5.out (j := 6) rfl
   have fa6 : W5.frozen? ⟨g + 1, 6, none⟩ = false := row_thaw HA5.out 6
   have ha7 : W5.cell? ⟨g + 1, 7, none⟩ = some (.string ⟨#[]⟩) := row_cell HA5.out (j := 7) rfl
   have fa7 : W5.frozen? ⟨g + 1, 7, none⟩ = false := row_thaw HA5.out 7
   refine seq_come _ rfl (fun K hK => ?_); go_simp
   have hua := val_upd8 W5 (g + 1) (.int .i64 0) (.string ⟨#[]⟩) (.bool false) (.int .u64 0) (.slice none 0 0) (.slice none 0 0) (.string ⟨#[]⟩) (.string ⟨#[]⟩)
   have hrow := val_set8 HA5.out (.int .i64 0) (.string ⟨#[]⟩) (.bool false) (.int .u64 0) (.slice none 0 0) (.slice none 0 0) (.string ⟨#[]⟩) (.string ⟨#[]⟩)
   have HC6 := Lib.hid ((hua.block (g + 2) (row_lt HC5.out) (fun e => by have e : g + 2 = g + 1 := e; omega)).trans HC5.out)
   refine hK.out _ _ HC6.out ?_; clear hK K
   iterate 2 (refine seq_take _ rfl (fun K hK => ?_); go_simp; (first | refine hK _ ?_ | refine ⟨_, fun _ _ => rfl, hK _ ?_⟩); clear hK K)
   refine seq_done ?_
   clear ha0 fa0 ha1 fa1 ha2 fa2 ha3 fa3 ha4 fa4 ha5 fa5 ha6 fa6 ha7 fa7
   go_wp2_with fail
   refine body_cell3 rfl rfl (load_val hrow rfl) rfl ?_
   refine ⟨HBW5.out.trans (hua.below (by have := HBW5.out.size; omega) (fun k _ h => by have h : k = g + 1 := h; have := HG.out; omega)), ?_⟩
   rw [if_neg HPS.out, HRR.out]
   obtain ⟨ws, he⟩ := HEW6.out
   exact ⟨_, rfl, ws, isErr_upd hua (fun k hk b m e h => by have hk : k = g + 1 := hk; subst hk; rw [HA5.out] at h; simp at h) he⟩
  | ok x =>
   rw [hrd] at hcase
   obtain ⟨cs, rfl, hrel⟩ := hcase
   have HREL := Lib.hid hrel
   obtain ⟨k, S, b0, n, lo, ln, lc, mo, mn, mc, I, U, hcs⟩ := hrel.form
   have HCS := Lib.hid hcs
   rw [hcs]
   have HRR := Lib.hid hrd
   clear hcs hrel hrd
   go_upto_region 7 with fail
   obtain ⟨W3, hW3⟩ : ∃ W, w2.alloc (.cells #[.int .i64 k, .string S, .bool b0, .int .u64 n, .slice lo ln lc, .slice mo mn mc, .string I, .string U] 77) = W := ⟨_, rfl⟩
   have HB3 : Hid (Below w.heap.size w W3) := Lib.hid (by rw [← hW3]; exact below_step HB2.out (below_new _ _))
   have HR3 : Hid (W3.heap[g + 1]? = some (.cells #[.int .i64 0, .string ⟨#[]⟩, .bool false, .int .u64 0, .slice none 0 0, .slice none 0 0, .string ⟨#[]⟩, .string ⟨#[]⟩] 77 (0, 0))) := Lib.hid (by rw [← hW3]; exact (Below.heap_alloc _ _ _ (row_lt HA2.out)).trans HA2.out)
   obtain ⟨gx, hgx⟩ : ∃ gx, w2.heap.size = gx := ⟨_, rfl⟩
   have HX3 : Hid (W3.heap[gx]? = some (.cells #[.int .i64 k, .string S, .bool b0, .int .u64 n, .slice lo ln lc, .slice mo mn mc, .string I, .string U] 77 (0, 0))) := Lib.hid (by rw [← hW3, ← hgx]; exact heap_alloc_new _ _)
   have HU3 : Hid (Upd (fun _ => False) w2 W3) := Lib.hid (by rw [← hW3]; exact Upd.alloc _ _ _)
   rw [hW3, hgx]
   have hgg : g + 1 ≠ gx := by have := row_lt HA2.out; omega
   clear hW3 hgx
   have hg0 : W3.cell? ⟨g + 1, 0, none⟩ = some (.int .i64 0) := row_cell HR3.out (j := 0) rfl
   have fg0 : W3.frozen? ⟨g + 1, 0, none⟩ = false := row_thaw HR3.out 0
   have hg1 : W3.cell? ⟨g + 1, 1, none⟩ = some (.string ⟨#[]⟩) := row_cell HR3.out (j := 1) rfl
   have fg1 : W3.frozen? ⟨g + 1, 1, none⟩ = false := row_thaw HR3.out 1
   have hg2 : W3.cell? ⟨g + 1, 2, none⟩ = some (.bool false) := row_cell HR3.out (j := 2) rfl
   have fg2 : W3.frozen? ⟨g + 1, 2, none⟩ = false := row_thaw HR3.out 2
   have hg3 : W3.cell? ⟨g + 1, 3, none⟩ = some (.int .u64 0) := row_cell HR3.out (j := 3) rfl
   have fg3 : W3.frozen? ⟨g + 1, 3, none⟩ = false := row_thaw HR3.out 3
   have hg4 : W3.cell? ⟨g + 1, 4, none⟩ = some (.slice none 0 0) := row_cell HR3.out (j := 4) rfl
   have fg4 : W3.frozen? ⟨g + 1, 4, none⟩ = false := row_thaw HR3.out 4
   have hg5 : W3.cell? ⟨g + 1, 5, none⟩ = some (.slice none 0 0) := row_cell HR3.out (j := 5) rfl
   have fg5 : W3.frozen? ⟨g + 1, 5, none⟩ = false := row_thaw HR3.out 5
   have hg6 : W3.cell? ⟨g + 1, 6, none⟩ = some (.string ⟨#[]⟩) := row_cell HR3.out (j := 6) rfl
   have fg6 : W3.frozen? ⟨g + 1, 6, none⟩ = false := row_thaw HR3.out 6
   have hg7 : W3.cell? ⟨g + 1, 7, none⟩ = some (.string ⟨#[]⟩) := row_cell HR3.out (j := 7) rfl
   have fg7 : W3.frozen? ⟨g + 1, 7, none⟩ = false := row_thaw HR3.out 7
   have hy0 : W3.cell? ⟨gx, 0, none⟩ = some (.int .i64 k) := row_cell HX3.out (j := 0) rfl
   have hy1 : W3.cell? ⟨gx, 1, none⟩ = some (.string S) := row_cell HX3.out (j := 1) rfl
   have hy2 : W3.cell? ⟨gx, 2, none⟩ = some (.bool b0) := row_cell HX3.out (j := 2) rfl
   have hy3 : W3.cell? ⟨gx, 3, none⟩ = some (.int .u64 n) := row_cell HX3.out (j := 3) rfl
   have hy4 : W3.cell? ⟨gx, 4, none⟩ = some (.slice lo ln lc) := row_cell HX3.out (j := 4) rfl
   have hy5 : W3.cell? ⟨gx, 5, none⟩ = some (.slice mo mn mc) := row_cell HX3.out (j := 5) rfl
   have hy6 : W3.cell? ⟨gx, 6, none⟩ = some (.string I) := row_cell HX3.out (j := 6) rfl
   have hy7 : W3.cell? ⟨gx, 7, none⟩ = some (.string U) := row_cell HX3.out (j := 7) rfl
   go_wp2_with fail
   have hua := val_upd8 W3 (g + 1) (.int .i64 k) (.string S) (.bool b0) (.int .u64 n) (.slice lo ln lc) (.slice mo mn mc) (.string I) (.string U)
   refine body_cell3 rfl rfl (load_val (val_set8 HR3.out _ _ _ _ _ _ _ _) rfl) rfl ?_
   refine ⟨HB3.out.trans (hua.below (by have := HB3.out.size; omega) (fun k _ h => by have h : k = g + 1 := h; have := HG.out; omega)), ?_⟩
   rw [if_neg HPS.out, HRR.out]
   refine ⟨_, rfl, VRel.upd hua (fun k hk h => ?_) (fun k hk => ?_) _ _ (VRel.upd HU3.out (fun _ _ h => h) (fun k hk => hk) _ _ (HCS.out ▸ HREL.out))⟩
   ·have h : k = g + 1 := h
    have := HS1.out
    omega
   ·have := HS0.out
    omega
open Go.RowKit
theorem key_set11 {w : World} {g : Nat} {T : TypeId} {a0 a1 a2 a3 a4 a5 a6 a7 a8 a9 a10 : Value} (h : w.heap[g]? = some (.cells #[a0, a1, a2, a3, a4, a5, a6, a7, a8, a9, a10] T (0, 0))) (c0 c1 c2 c3 c4 c5 c6 c7 c8 c9 c10 : Value) :
  ((((((((((((w).setCell ⟨g, 0, none⟩ c0).setCell ⟨g, 1, none⟩ c1).setCell ⟨g, 2, none⟩ c2).setCell ⟨g, 3, none⟩ c3).setCell ⟨g, 4, none⟩ c4).setCell ⟨g, 5, none⟩ c5).setCell ⟨g, 6, none⟩ c6).setCell ⟨g, 7, none⟩ c7).setCell ⟨g, 8, none⟩ c8).setCell ⟨g, 9, none⟩ c9).setCell ⟨g, 10, none⟩ c10).heap[g]? = some (.cells #[c0, c1, c2, c3, c4, c5, c6, c7, c8, c9, c10] T (0, 0)) := by
 have h0 : ((w).setCell ⟨g, 0, none⟩ c0).heap[g]? = some (.cells #[c0, a1, a2, a3, a4, a5, a6, a7, a8, a9, a10] T (0, 0)) := row_set h 0 c0
 have h1 : (((w).setCell ⟨g, 0, none⟩ c0).setCell ⟨g, 1, none⟩ c1).heap[g]? = some (.cells #[c0, c1, a2, a3, a4, a5, a6, a7, a8, a9, a10] T (0, 0)) := row_set h0 1 c1
 have h2 : ((((w).setCell ⟨g, 0, none⟩ c0).setCell ⟨g, 1, none⟩ c1).setCell ⟨g, 2, none⟩ c2).heap[g]? = some (.cells #[c0, c1, c2, a3, a4, a5, a6, a7, a8, a9, a10] T (0, 0)) := row_set h1 2 c2
 have h3 : (((((w).setCell ⟨g, 0, none⟩ c0).setCell ⟨g, 1, none⟩ c1).setCell ⟨g, 2, none⟩ c2).setCell ⟨g, 3, none⟩ c3).heap[g]? = some (.cells #[c0, c1, c2, c3, a4, a5, a6, a7, a8, a9, a10] T (0, 0)) := row_set h2 3 c3
 have h4 : ((((((w).setCell ⟨g, 0, none⟩ c0).setCell ⟨g, 1, none⟩ c1).setCell ⟨g, 2, none⟩ c2).setCell ⟨g, 3, none⟩ c3).setCell ⟨g, 4, none⟩ c4).heap[g]? = some (.cells #[c0, c1, c2, c3, c4, a5, a6, a7, a8, a9, a10] T (0, 0)) := row_set h3 4 c4
 have h5 : (((((((w).setCell ⟨g, 0, none⟩ c0).setCell ⟨g, 1, none⟩ c1).setCell ⟨g, 2, none⟩ c2).setCell ⟨g, 3, none⟩ c3).setCell ⟨g, 4, none⟩ c4).setCell ⟨g, 5, none⟩ c5).heap[g]? = some (.cells #[c0, c1, c2, c3, c4, c5, a6, a7, a8, a9, a10] T (0, 0)) := row_set h4 5 c5
 have h6 : ((((((((w).setCell ⟨g, 0, none⟩ c0).setCell ⟨g, 1, none⟩ c1).setCell ⟨g, 2, none⟩ c2).setCell ⟨g, 3, none⟩ c3).setCell ⟨g, 4, none⟩ c4).setCell ⟨g, 5, none⟩ c5).setCell ⟨g, 6, none⟩ c6).heap[g]? = some (.cells #[c0, c1, c2, c3, c4, c5, c6, a7, a8, a9, a10] T (0, 0)) := row_set h5 6 c6
 have h7 : (((((((((w).setCell ⟨g, 0, none⟩ c0).setCell ⟨g, 1, none⟩ c1).setCell ⟨g, 2, none⟩ c2).setCell ⟨g, 3, none⟩ c3).setCell ⟨g, 4, none⟩ c4).setCell ⟨g, 5, none⟩ c5).setCell ⟨g, 6, none⟩ c6).setCell ⟨g, 7, none⟩ c7).heap[g]? = some (.cells #[c0, c1, c2, c3, c4, c5, c6, c7, a8, a9, a10] T (0, 0)) := row_set h6 7 c7
 have h8 : ((((((((((w).setCell ⟨g, 0, none⟩ c0).setCell ⟨g, 1, none⟩ c1).setCell ⟨g, 2, none⟩ c2).setCell ⟨g, 3, none⟩ c3).setCell ⟨g, 4, none⟩ c4).setCell ⟨g, 5, none⟩ c5).setCell ⟨g, 6, none⟩ c6).setCell ⟨g, 7, none⟩ c7).setCell ⟨g, 8, none⟩ c8).heap[g]? = some (.cells #[c0, c1, c2, c3, c4, c5, c6, c7, c8, a9, a10] T (0, 0)) := row_set h7 8 c8
 have h9 : (((((((((((w).setCell ⟨g, 0, none⟩ c0).setCell ⟨g, 1, none⟩ c1).setCell ⟨g, 2, none⟩ c2).setCell ⟨g, 3, none⟩ c3).setCell ⟨g, 4, none⟩ c4).setCell ⟨g, 5, none⟩ c5).setCell ⟨g, 6, none⟩ c6).setCell ⟨g, 7, none⟩ c7).setCell ⟨g, 8, none⟩ c8).setCell ⟨g, 9, none⟩ c9).heap[g]? = some (.cells #[c0, c1, c2, c3, c4, c5, c6, c7, c8, c9, a10] T (0, 0)) := row_set h8 9 c9
 have h10 : ((((((((((((w).setCell ⟨g, 0, none⟩ c0).setCell ⟨g, 1, none⟩ c1).setCell ⟨g, 2, none⟩ c2).setCell ⟨g, 3, none⟩ c3).setCell ⟨g, 4, none⟩ c4).setCell ⟨g, 5, none⟩ c5).setCell ⟨g, 6, none⟩ c6).setCell ⟨g, 7, none⟩ c7).setCell ⟨g, 8, none⟩ c8).setCell ⟨g, 9, none⟩ c9).setCell ⟨g, 10, none⟩ c10).heap[g]? = some (.cells #[c0, c1, c2, c3, c4, c5, c6, c7, c8, c9, c10] T (0, 0)) := row_set h9 10 c10
 exact h10
theorem key_set11_upd (w : World) (g : Nat) (c0 c1 c2 c3 c4 c5 c6 c7 c8 c9 c10 : Value) : Upd (fun k => k = g) w (((((((((((w.setCell ⟨g, 0, none⟩ c0).setCell ⟨g, 1, none⟩ c1).setCell ⟨g, 2, none⟩ c2).setCell ⟨g, 3, none⟩ c3).setCell ⟨g, 4, none⟩ c4).setCell ⟨g, 5, none⟩ c5).setCell ⟨g, 6, none⟩ c6).setCell ⟨g, 7, none⟩ c7).setCell ⟨g, 8, none⟩ c8).setCell ⟨g, 9, none⟩ c9).setCell ⟨g, 10, none⟩ c10) := by
 have u0 := Upd.set w ⟨g, 0, none⟩ c0
 have u1 : Upd (fun k => k = g) w ((w.setCell ⟨g, 0, none⟩ c0).setCell ⟨g, 1, none⟩ c1) := Upd.trans u0 (Upd.set (w.setCell ⟨g, 0, none⟩ c0) ⟨g, 1, none⟩ c1)
 have u2 : Upd (fun k => k = g) w (((w.setCell ⟨g, 0, none⟩ c0).setCell ⟨g, 1, none⟩ c1).setCell ⟨g, 2, none⟩ c2) := Upd.trans u1 (Upd.set ((w.setCell ⟨g, 0, none⟩ c0).setCell ⟨g, 1, none⟩ c1) ⟨g, 2, none⟩ c2)
 have u3 : Upd (fun k => k = g) w ((((w.setCell ⟨g, 0, none⟩ c0).setCell ⟨g, 1, none⟩ c1).setCell ⟨g, 2, none⟩ c2).setCell ⟨g, 3, none⟩ c3) := Upd.trans u2 (Upd.set (((w.setCell ⟨g, 0, none⟩ c0).setCell ⟨g, 1, none⟩ c1).setCell ⟨g, 2, none⟩ c2) ⟨g, 3, none⟩ c3)
 have u4 : Upd (fun k => k = g) w (((((w.setCell ⟨g, 0, none⟩ c0).setCell ⟨g, 1, none⟩ c1).setCell ⟨g, 2, none⟩ c2).setCell ⟨g, 3, none⟩ c3).setCell ⟨g, 4, none⟩ c4) := Upd.trans u3 (Upd.set ((((w.setCell ⟨g, 0, none⟩ c0).setCell ⟨g, 1, none⟩ c1).setCell ⟨g, 2, none⟩ c2).setCell ⟨g, 3, none⟩ c3) ⟨g, 4, none⟩ c4)
 have u5 : Upd (fun k => k = g) w ((((((w.setCell ⟨g, 0, none⟩ c0).setCell ⟨g, 1, none⟩ c1).setCell ⟨g, 2, none⟩ c2).setCell ⟨g, 3, none⟩ c3).setCell ⟨g, 4, none⟩ c4).setCell ⟨g, 5, none⟩ c5) := Upd.trans u4 (Upd.set (((((w.setCell ⟨g, 0, none⟩ c0).setCell ⟨g, 1, none⟩ c1).setCell ⟨g, 2, none⟩ c2).setCell ⟨g, 3, none⟩ c3).setCell ⟨g, 4, none⟩ c4) ⟨g, 5, none⟩ c5)
 have u6 : Upd (fun k => k = g) w (((((((w.setCell ⟨g, 0, none⟩ c0).setCell ⟨g, 1, none⟩ c1).setCell ⟨g, 2, none⟩ c2).setCell ⟨g, 3, none⟩ c3).setCell ⟨g, 4, none⟩ c4).setCell ⟨g, 5, none⟩ c5).setCell ⟨g, 6, none⟩ c6) := Upd.trans u5 (Upd.set ((((((w.setCell ⟨g, 0, none⟩ c0).setCell ⟨g, 1, none⟩ c1).setCell ⟨g, 2, none⟩ c2).setCell ⟨g, 3, none⟩ c3).setCell ⟨g, 4, none⟩ c4).setCell ⟨g, 5, none⟩ c5) ⟨g, 6, none⟩ c6)
 have u7 : Upd (fun k => k = g) w ((((((((w.setCell ⟨g, 0, none⟩ c0).setCell ⟨g, 1, none⟩ c1).setCell ⟨g, 2, none⟩ c2).setCell ⟨g, 3, none⟩ c3).setCell ⟨g, 4, none⟩ c4).setCell ⟨g, 5, none⟩ c5).setCell ⟨g, 6, none⟩ c6).setCell ⟨g, 7, none⟩ c7) := Upd.trans u6 (Upd.set (((((((w.setCell ⟨g, 0, none⟩ c0).setCell ⟨g, 1, none⟩ c1).setCell ⟨g, 2, none⟩ c2).setCell ⟨g, 3, none⟩ c3).setCell ⟨g, 4, none⟩ c4).setCell ⟨g, 5, none⟩ c5).setCell ⟨g, 6, none⟩ c6) ⟨g, 7, none⟩ c7)
 have u8 : Upd (fun k => k = g) w (((((((((w.setCell ⟨g, 0, none⟩ c0).setCell ⟨g, 1, none⟩ c1).setCell ⟨g, 2, none⟩ c2).setCell ⟨g, 3, none⟩ c3).setCell ⟨g, 4, none⟩ c4).setCell ⟨g, 5, none⟩ c5).setCell ⟨g, 6, none⟩ c6).setCell ⟨g, 7, none⟩ c7).setCell ⟨g, 8, none⟩ c8) := Upd.trans u7 (Upd.set ((((((((w.setCell ⟨g, 0, none⟩ c0).setCell ⟨g, 1, none⟩ c1).setCell ⟨g, 2, none⟩ c2).setCell ⟨g, 3, none⟩ c3).setCell ⟨g, 4, none⟩ c4).setCell ⟨g, 5, none⟩ c5).setCell ⟨g, 6, none⟩ c6).setCell ⟨g, 7, none⟩ c7) ⟨g, 8, none⟩ c8)
 have u9 : Upd (fun k => k = g) w ((((((((((w.setCell ⟨g, 0, none⟩ c0).setCell ⟨g, 1, none⟩ c1).setCell ⟨g, 2, none⟩ c2).setCell ⟨g, 3, none⟩ c3).setCell ⟨g, 4, none⟩ c4).setCell ⟨g, 5, none⟩ c5).setCell ⟨g, 6, none⟩ c6).setCell ⟨g, 7, none⟩ c7).setCell ⟨g, 8, none⟩ c8).setCell ⟨g, 9, none⟩ c9) := Upd.trans u8 (Upd.set (((((((((w.setCell ⟨g, 0, none⟩ c0).setCell ⟨g, 1, none⟩ c1).setCell ⟨g, 2, none⟩ c2).setCell ⟨g, 3, none⟩ c3).setCell ⟨g, 4, none⟩ c4).setCell ⟨g, 5, none⟩ c5).setCell ⟨g, 6, none⟩ c6).setCell ⟨g, 7, none⟩ c7).setCell ⟨g, 8, none⟩ c8) ⟨g, 9, none⟩ c9)
 have u10 : Upd (fun k => k = g) w (((((((((((w.setCell ⟨g, 0, none⟩ c0).setCell ⟨g, 1, none⟩ c1).setCell ⟨g, 2, none⟩ c2).setCell ⟨g, 3, none⟩ c3).setCell ⟨g, 4, none⟩ c4).setCell ⟨g, 5, none⟩ c5).setCell ⟨g, 6, none⟩ c6).setCell ⟨g, 7, none⟩ c7).setCell ⟨g, 8, none⟩ c8).setCell ⟨g, 9, none⟩ c9).setCell ⟨g, 10, none⟩ c10) := Upd.trans u9 (Upd.set ((((((((((w.setCell ⟨g, 0, none⟩ c0).setCell ⟨g, 1, none⟩ c1).setCell ⟨g, 2, none⟩ c2).setCell ⟨g, 3, none⟩ c3).setCell ⟨g, 4, none⟩ c4).setCell ⟨g, 5, none⟩ c5).setCell ⟨g, 6, none⟩ c6).setCell ⟨g, 7, none⟩ c7).setCell ⟨g, 8, none⟩ c8).setCell ⟨g, 9, none⟩ c9) ⟨g, 10, none⟩ c10)
 exact u10
theorem key_set9 {w : World} {g : Nat} {T : TypeId} {a0 a1 a2 a3 a4 a5 a6 a7 a8 a9 a10 : Value} (h : w.heap[g]? = some (.cells #[a0, a1, a2, a3, a4, a5, a6, a7, a8, a9, a10] T (0, 0))) (c2 c3 c4 c5 c6 c7 c8 c9 c1 : Value) :
  ((((((((((w).setCell ⟨g, 2, none⟩ c2).setCell ⟨g, 3, none⟩ c3).setCell ⟨g, 4, none⟩ c4).setCell ⟨g, 5, none⟩ c5).setCell ⟨g, 6, none⟩ c6).setCell ⟨g, 7, none⟩ c7).setCell ⟨g, 8, none⟩ c8).setCell ⟨g, 9, none⟩ c9).setCell ⟨g, 1, none⟩ c1).heap[g]? = some (.cells #[a0, c1, c2, c3, c4, c5, c6, c7, c8, c9, a10] T (0, 0)) := by
 have h0 : ((w).setCell ⟨g, 2, none⟩ c2).heap[g]? = some (.cells #[a0, a1, c2, a3, a4, a5, a6, a7, a8, a9, a10] T (0, 0)) := row_set h 2 c2
 have h1 : (((w).setCell ⟨g, 2, none⟩ c2).setCell ⟨g, 3, none⟩ c3).heap[g]? = some (.cells #[a0, a1, c2, c3, a4, a5, a6, a7, a8, a9, a10] T (0, 0)) := row_set h0 3 c3
 have h2 : ((((w).setCell ⟨g, 2, none⟩ c2).setCell ⟨g, 3, none⟩ c3).setCell ⟨g, 4, none⟩ c4).heap[g]? = some (.cells #[a0, a1, c2, c3, c4, a5, a6, a7, a8, a9, a10] T (0, 0)) := row_set h1 4 c4
 have h3 : (((((w).setCell ⟨g, 2, none⟩ c2).setCell ⟨g, 3, none⟩ c3).setCell ⟨g, 4, none⟩ c4).setCell ⟨g, 5, none⟩ c5).heap[g]? = some (.cells #[a0, a1, c2, c3, c4, c5, a6, a7, a8, a9, a10] T (0, 0)) := row_set h2 5 c5
 have h4 : ((((((w).setCell ⟨g, 2, none⟩ c2).setCell ⟨g, 3, none⟩ c3).setCell ⟨g, 4, none⟩ c4).setCell ⟨g, 5, none⟩ c5).setCell ⟨g, 6, none⟩ c6).heap[g]? = some (.cells #[a0, a1, c2, c3, c4, c5, c6, a7, a8, a9, a10] T (0, 0)) := row_set h3 6 c6
 have h5 : (((((((w).setCell ⟨g, 2, none⟩ c2).setCell ⟨g, 3, none⟩ c3).setCell ⟨g, 4, none⟩ c4).setCell ⟨g, 5, none⟩ c5).setCell ⟨g, 6, none⟩ c6).setCell ⟨g, 7, none⟩ c7).heap[g]? = some (.cells #[a0, a1, c2, c3, c4, c5, c6, c7, a8, a9, a10] T (0, 0)) := row_set h4 7 c7
 have h6 : ((((((((w).setCell ⟨g, 2, none⟩ c2).setCell ⟨g, 3, none⟩ c3).setCell ⟨g, 4, none⟩ c4).setCell ⟨g, 5, none⟩ c5).setCell ⟨g, 6, none⟩ c6).setCell ⟨g, 7, none⟩ c7).setCell ⟨g, 8, none⟩ c8).heap[g]? = some (.cells #[a0, a1, c2, c3, c4, c5, c6, c7, c8, a9, a10] T (0, 0)) := row_set h5 8 c8
 have h7 : (((((((((w).setCell ⟨g, 2, none⟩ c2).setCell ⟨g, 3, none⟩ c3).setCell ⟨g, 4, none⟩ c4).setCell ⟨g, 5, none⟩ c5).setCell ⟨g, 6, none⟩ c6).setCell ⟨g, 7, none⟩ c7).setCell ⟨g, 8, none⟩ c8).setCell ⟨g, 9, none⟩ c9).heap[g]? = some (.cells #[a0, a1, c2, c3, c4, c5, c6, c7, c8, c9, a10] T (0, 0)) := row_set h6 9 c9
 have h8 : ((((((((((w).setCell ⟨g, 2, none⟩ c2).setCell ⟨g, 3, none⟩ c3).setCell ⟨g, 4, none⟩ c4).setCell ⟨g, 5, none⟩ c5).setCell ⟨g, 6, none⟩ c6).setCell ⟨g, 7, none⟩ c7).setCell ⟨g, 8, none⟩ c8).setCell ⟨g, 9, none⟩ c9).setCell ⟨g, 1, none⟩ c1).heap[g]? = some (.cells #[a0, c1, c2, c3, c4, c5, c6, c7, c8, c9, a10] T (0, 0)) := row_set h7 1 c1
 exact h8
theorem key_set9_upd (w : World) (g : Nat) (c2 c3 c4 c5 c6 c7 c8 c9 c1 : Value) : Upd (fun k => k = g) w (((((((((w.setCell ⟨g, 2, none⟩ c2).setCell ⟨g, 3, none⟩ c3).setCell ⟨g, 4, none⟩ c4).setCell ⟨g, 5, none⟩ c5).setCell ⟨g, 6, none⟩ c6).setCell ⟨g, 7, none⟩ c7).setCell ⟨g, 8, none⟩ c8).setCell ⟨g, 9, none⟩ c9).setCell ⟨g, 1, none⟩ c1) := by
 have u0 := Upd.set w ⟨g, 2, none⟩ c2
 have u1 : Upd (fun k => k = g) w ((w.setCell ⟨g, 2, none⟩ c2).setCell ⟨g, 3, none⟩ c3) := Upd.trans u0 (Upd.set (w.setCell ⟨g, 2, none⟩ c2) ⟨g, 3, none⟩ c3)
 have u2 : Upd (fun k => k = g) w (((w.setCell ⟨g, 2, none⟩ c2).setCell ⟨g, 3, none⟩ c3).setCell ⟨g, 4, none⟩ c4) := Upd.trans u1 (Upd.set ((w.setCell ⟨g, 2, none⟩ c2).setCell ⟨g, 3, none⟩ c3) ⟨g, 4, none⟩ c4)
 have u3 : Upd (fun k => k = g) w ((((w.setCell ⟨g, 2, none⟩ c2).setCell ⟨g, 3, none⟩ c3).setCell ⟨g, 4, none⟩ c4).setCell ⟨g, 5, none⟩ c5) := Upd.trans u2 (Upd.set (((w.setCell ⟨g, 2, none⟩ c2).setCell ⟨g, 3, none⟩ c3).setCell ⟨g, 4, none⟩ c4) ⟨g, 5, none⟩ c5)
 have u4 : Upd (fun k => k = g) w (((((w.setCell ⟨g, 2, none⟩ c2).setCell ⟨g, 3, none⟩ c3).setCell ⟨g, 4, none⟩ c4).setCell ⟨g, 5, none⟩ c5).setCell ⟨g, 6, none⟩ c6) := Upd.trans u3 (Upd.set ((((w.setCell ⟨g, 2, none⟩ c2).setCell ⟨g, 3, none⟩ c3).setCell ⟨g, 4, none⟩ c4).setCell ⟨g, 5, none⟩ c5) ⟨g, 6, none⟩ c6)
 have u5 : Upd (fun k => k = g) w ((((((w.setCell ⟨g, 2, none⟩ c2).setCell ⟨g, 3, none⟩ c3).setCell ⟨g, 4, none⟩ c4).setCell ⟨g, 5, none⟩ c5).setCell ⟨g, 6, none⟩ c6).setCell ⟨g, 7, none⟩ c7) := Upd.trans u4 (Upd.set (((((w.setCell ⟨g, 2, none⟩ c2).setCell ⟨g, 3, none⟩ c3).setCell ⟨g, 4, none⟩ c4).setCell ⟨g, 5, none⟩ c5).setCell ⟨g, 6, none⟩ c6) ⟨g, 7, none⟩ c7)
 have u6 : Upd (fun k => k = g) w (((((((w.setCell ⟨g, 2, none⟩ c2).setCell ⟨g, 3, none⟩ c3).setCell ⟨g, 4, none⟩ c4).setCell ⟨g, 5, none⟩ c5).setCell ⟨g, 6, none⟩ c6).setCell ⟨g, 7, none⟩ c7).setCell ⟨g, 8, none⟩ c8) := Upd.trans u5 (Upd.set ((((((w.setCell ⟨g, 2, none⟩ c2).setCell ⟨g, 3, none⟩ c3).setCell ⟨g, 4, none⟩ c4).setCell ⟨g, 5, none⟩ c5).setCell ⟨g, 6, none⟩ c6).setCell ⟨g, 7, none⟩ c7) ⟨g, 8, none⟩ c8)
 have u7 : Upd (fun k => k = g) w ((((((((w.setCell ⟨g, 2, none⟩ c2).setCell ⟨g, 3, none⟩ c3).setCell ⟨g, 4, none⟩ c4).setCell ⟨g, 5, none⟩ c5).setCell ⟨g, 6, none⟩ c6).setCell ⟨g, 7, none⟩ c7).setCell ⟨g, 8, none⟩ c8).setCell ⟨g, 9, none⟩ c9) := Upd.trans u6 (Upd.set (((((((w.setCell ⟨g, 2, none⟩ c2).setCell ⟨g, 3, none⟩ c3).setCell ⟨g, 4, none⟩ c4).setCell ⟨g, 5, none⟩ c5).setCell ⟨g, 6, none⟩ c6).setCell ⟨g, 7, none⟩ c7).setCell ⟨g, 8, none⟩ c8) ⟨g, 9, none⟩ c9)
 have u8 : Upd (fun k => k = g) w (((((((((w.setCell ⟨g, 2, none⟩ c2).setCell ⟨g, 3, none⟩ c3).setCell ⟨g, 4, none⟩ c4).setCell ⟨g, 5, none⟩ c5).setCell ⟨g, 6, none⟩ c6).setCell ⟨g, 7, none⟩ c7).setCell ⟨g, 8, none⟩ c8).setCell ⟨g, 9, none⟩ c9).setCell ⟨g, 1, none⟩ c1) := Upd.trans u7 (Upd.set ((((((((w.setCell ⟨g, 2, none⟩ c2).setCell ⟨g, 3, none⟩ c3).setCell ⟨g, 4, none⟩ c4).setCell ⟨g, 5, none⟩ c5).setCell ⟨g, 6, none⟩ c6).setCell ⟨g, 7, none⟩ c7).setCell ⟨g, 8, none⟩ c8).setCell ⟨g, 9, none⟩ c9) ⟨g, 1, none⟩ c1)
 exact u8
theorem load_key {w : World} {g : Nat} {cs : Array Value} (hg : w.heap[g]? = some (.cells cs 79 (0, 0))) (hc : cs.size = 11) : (loadVar 79 ⟨g, 0, none⟩).run Tryz.prog w = .ok (.agg cs) w :=
 run_loadVar_row w g 79 79 cs (0, 0) _ hg Tryz.underlying79 rfl (by rw [hc]; kernel_rfl)
theorem key_le {l : List UInt8} {d : Int} {o : List UInt8 × List (List UInt8)} {u : List UInt8} (h : mread ktk kstep ([], []) l d = .ok (o, u)) : (o.2 ≠ [] → o.2.flatten.length < l.length) ∧ o.2.flatten.length ≤ l.length ∧ o.2.length ≤ l.length := by
 obtain ⟨_, rs, hw, hm⟩ := mread_depth h
 dsimp only at hm
 have h1 := kfold_len rs (wall_recs _ (Nat.le_refl _) hw) hm
 have h2 := (wall_raws _ (Nat.le_refl _) hw).1
 rw [h2] at h1
 dsimp only [List.flatten_nil, List.length_nil] at h1
 refine ⟨fun hn => ?_, ?_, by omega⟩
 ·rcases h1.1 with h | h
  ·exact absurd h hn
  ·omega
 ·rcases h1.1 with h | h
  ·rw [h]; simp
  ·omega
theorem krel_make {w : World} {P : Nat → Prop} {x : Val} {cs : List Value} (key : List UInt8) (has : Bool) (u : List UInt8) (h : VRel w P x cs) : KRel w P (.mk key has x u) ([strV key, .bool has] ++ cs ++ [strV u]) := by
 rw [KRel]
 exact ⟨cs, h, rfl⟩
theorem kun_step (f : Nat) (X : ByteArray) (d : Int) (w : World) (hX : X.size ≤ 1000000) (hd : -9223372036854775808 ≤ d ∧ d ≤ 9223372036854775807)
  (hvr : Hid (∀ (Y : ByteArray) (d' : Int) w', Y.size < X.size → -9223372036854775808 ≤ d' ∧ d' ≤ 9223372036854775807 → Calls Tryz.prog 134 #[.string Y, .int .i64 d'] w' (VPost (vread f Y.data.toList d') Y.size w'))) :
  Calls Tryz.prog 76 #[.string X, .int .i64 d] w (KPost (kread (f + 1) X.data.toList d) X.size w) := by
 have HK := Lib.hid (fun (bx bp : Nat) (r : Rec) (st : List UInt8 × List (List UInt8)) (P : Nat → Prop) (w : World) (_ : ktk r = true) (hr : IsRec d r) (hraw : r.raw.length ≤ X.size) (_ : ∀ rs, wall X.data.toList d = .ok rs → r ∈ rs) (hpre : ∃ pre : List Rec, (∀ x ∈ pre, IsRec d x) ∧ mfold ktk kstep ([], []) pre = .ok st ∧ (pre.flatMap Rec.raw).length + r.raw.length ≤ X.size) (h : (keyTaker bx bp).rel st P w) => ktake_any bx bp r st P w (by have := isrec_s hr; omega) (by
  obtain ⟨pre, h1, h2, h3⟩ := hpre
  have := (kfold_len pre h1 h2).2
  dsimp only [List.length_nil] at this
  have := isrec_s hr
  omega) (Lib.hid h))
 have HE1 := Lib.hid (enters_of Tryz.func130 (by kernel_rfl) rfl)
 have HE2 := Lib.hid (enters_of Tryz.func131 (by kernel_rfl) rfl)
 have HE3 := Lib.hid (enters_of Tryz.func134 (by kernel_rfl) rfl)
 have HRD : Hid (kread (f + 1) X.data.toList d = match mread ktk kstep ([], []) X.data.toList d with | .error c => .error c | .ok (st, unk) => if st.2 = [] then .ok (.mk st.1 false .zero unk) else match vread f st.2.flatten (d - 1) with | .error c => .error c | .ok v => .ok (.mk st.1 true v unk)) := Lib.hid (by rw [kread]; cases mread ktk kstep ([], []) X.data.toList d <;> rfl)
 obtain ⟨g, hg⟩ : ∃ g, w.heap.size = g := ⟨_, rfl⟩
 obtain ⟨W0, hW0⟩ : ∃ W0, ((w.alloc (.cells #[.string ⟨#[]⟩, .bool false, .int .i64 0, .string ⟨#[]⟩, .bool false, .int .u64 0, .slice none 0 0, .slice none 0 0, .string ⟨#[]⟩, .string ⟨#[]⟩, .string ⟨#[]⟩] 79)).alloc (.cells #[.string ⟨#[]⟩, .bool false, .int .i64 0, .string ⟨#[]⟩, .bool false, .int .u64 0, .slice none 0 0, .slice none 0 0, .string ⟨#[]⟩, .string ⟨#[]⟩, .string ⟨#[]⟩] 79)).alloc (.cells #[.slice none 0 0] 55) = W0 := ⟨_, rfl⟩
 have HB0 : Hid (Below w.heap.size w W0) := Lib.hid (by rw [← hW0]; exact below_step (below_step (below_new _ _) (below_new _ _)) (below_new _ _))
 have hthree : W0.heap[g]? = some (.cells #[.string ⟨#[]⟩, .bool false, .int .i64 0, .string ⟨#[]⟩, .bool false, .int .u64 0, .slice none 0 0, .slice none 0 0, .string ⟨#[]⟩, .string ⟨#[]⟩, .string ⟨#[]⟩] 79 (0, 0)) ∧ W0.heap[g + 1]? = some (.cells #[.string ⟨#[]⟩, .bool false, .int .i64 0, .string ⟨#[]⟩, .bool false, .int .u64 0, .slice none 0 0, .slice none 0 0, .string ⟨#[]⟩, .string ⟨#[]⟩, .string ⟨#[]⟩] 79 (0, 0)) ∧ W0.heap[g + 2]? = some (.cells #[.slice none 0 0] 55 (0, 0)) := by rw [← hW0]; exact new_three_c hg _ _ _
 have HR0 := Lib.hid hthree.1
 have HTK : Hid ((keyTaker (g + 1) (g + 2)).rel ([], []) (fun k => k = g + 1 ∨ k = g + 2 ∨ (Value.slice none 0 0).ownBlock = some k) W0) := Lib.hid ⟨by omega, .slice none 0 0, hthree.2.1, hthree.2.2, World.ownsRow_nil _ _ _ _, rfl⟩
 have HW0 := Lib.hid hW0
 have HGG := Lib.hid hg
 clear hW0 hthree
 go_enter Tryz.func76, Tryz.ntmps76
 go_wp2_with fail
 rw [HW0.out]
 refine (mread_any (keyTaker (g + 1) (g + 2)) ktk kstep 130 131 #[.pointer (some ⟨g + 1, 0, none⟩), .pointer (some ⟨g + 2, 0, none⟩)] ([], []) X d W0 hX HE1.out HE2.out (fun r w _ => ktakes_any r w) (HK.out (g + 1) (g + 2)) _ HTK.out).mono ?_; intro e w1 hpost
 obtain ⟨hu, hcase⟩ := hpost
 have hu1 : Upd (fun k => k = g + 1 ∨ k = g + 2) W0 w1 := hu.mono (fun k _ h => by
  rcases h with h | h | h
  ·exact .inl h
  ·exact .inr h
  ·simp [Value.ownBlock] at h)
 have HR1 : Hid (w1.heap[g]? = some (.cells #[.string ⟨#[]⟩, .bool false, .int .i64 0, .string ⟨#[]⟩, .bool false, .int .u64 0, .slice none 0 0, .slice none 0 0, .string ⟨#[]⟩, .string ⟨#[]⟩, .string ⟨#[]⟩] 79 (0, 0))) := Lib.hid ((hu1.block g (row_lt HR0.out) (by omega)).trans HR0.out)
 have HB1 : Hid (Below w.heap.size w w1) := Lib.hid (HB0.out.trans (hu1.below (by have := HB0.out.size; omega) (fun k _ h => by omega)))
 clear hu hu1
 cases hb : mread ktk kstep ([], []) X.data.toList d with
 | error c =>
  rw [hb] at hcase
  obtain ⟨v, q, rfl, hq, hew⟩ := hcase
  obtain ⟨T', y, rfl⟩ := hew.iface
  have HBR : Hid (kread (f + 1) X.data.toList d = .error c) := Lib.hid (by rw [HRD.out, hb])
  have HEW := Lib.hid hew
  clear hb hew
  have hg0 : w1.cell? ⟨g, 0, none⟩ = some (.string ⟨#[]⟩) := row_cell HR1.out (j := 0) rfl
  have fg0 : w1.frozen? ⟨g, 0, none⟩ = false := row_thaw HR1.out 0
  have hg1 : w1.cell? ⟨g, 1, none⟩ = some (.bool false) := row_cell HR1.out (j := 1) rfl
  have fg1 : w1.frozen? ⟨g, 1, none⟩ = false := row_thaw HR1.out 1
  have hg2 : w1.cell? ⟨g, 2, none⟩ = some (.int .i64 0) := row_cell HR1.out (j := 2) rfl
  have fg2 : w1.frozen? ⟨g, 2, none⟩ = false := row_thaw HR1.out 2
  have hg3 : w1.cell? ⟨g, 3, none⟩ = some (.string ⟨#[]⟩) := row_cell HR1.out (j := 3) rfl
  have fg3 : w1.frozen? ⟨g, 3, none⟩ = false := row_thaw HR1.out 3
  have hg4 : w1.cell? ⟨g, 4, none⟩ = some (.bool false) := row_cell HR1.out (j := 4) rfl
  have fg4 : w1.frozen? ⟨g, 4, none⟩ = false := row_thaw HR1.out 4
  have hg5 : w1.cell? ⟨g, 5, none⟩ = some (.int .u64 0) := row_cell HR1.out (j := 5) rfl
  have fg5 : w1.frozen? ⟨g, 5, none⟩ = false := row_thaw HR1.out 5
  have hg6 : w1.cell? ⟨g, 6, none⟩ = some (.slice none 0 0) := row_cell HR1.out (j := 6) rfl
  have fg6 : w1.frozen? ⟨g, 6, none⟩ = false := row_thaw HR1.out 6
  have hg7 : w1.cell? ⟨g, 7, none⟩ = some (.slice none 0 0) := row_cell HR1.out (j := 7) rfl
  have fg7 : w1.frozen? ⟨g, 7, none⟩ = false := row_thaw HR1.out 7
  have hg8 : w1.cell? ⟨g, 8, none⟩ = some (.string ⟨#[]⟩) := row_cell HR1.out (j := 8) rfl
  have fg8 : w1.frozen? ⟨g, 8, none⟩ = false := row_thaw HR1.out 8
  have hg9 : w1.cell? ⟨g, 9, none⟩ = some (.string ⟨#[]⟩) := row_cell HR1.out (j := 9) rfl
  have fg9 : w1.frozen? ⟨g, 9, none⟩ = false := row_thaw HR1.out 9
  have hg10 : w1.cell? ⟨g, 10, none⟩ = some (.string ⟨#[]⟩) := row_cell HR1.out (j := 10) rfl
  have fg10 : w1.frozen? ⟨g, 10, none⟩ = false := row_thaw HR1.out 10
  go_wp2_with fail
  have hua := key_set11_upd w1 g (.string ⟨#[]⟩) (.bool false) (.int .i64 0) (.string ⟨#[]⟩) (.bool false) (.int .u64 0) (.slice none 0 0) (.slice none 0 0) (.string ⟨#[]⟩) (.string ⟨#[]⟩) (.string ⟨#[]⟩)
  refine body_cell2v rfl rfl (load_key (key_set11 HR1.out _ _ _ _ _ _ _ _ _ _ _) rfl) rfl ?_
  refine ⟨HB1.out.trans (hua.below (by have := HB1.out.size; omega) (fun k _ h => by have h : k = g := h; omega)), ?_⟩
  rw [HBR.out]
  obtain ⟨ws, he⟩ := HEW.out
  exact ⟨_, q, rfl, hq, ws, isErr_upd hua (fun k hk b m e h => by have hk : k = g := hk; subst hk; rw [HR1.out] at h; simp at h) he⟩
 | ok xu =>
  obtain ⟨st, u⟩ := xu
  rw [hb] at hcase
  obtain ⟨rfl, P', ⟨_, v, h1, h2, h3, rfl⟩, hp⟩ := hcase
  obtain ⟨ao, cap, rfl⟩ := own_slice h3
  have hd0 := (mread_depth hb).1
  have hle := key_le hb
  have hXl : X.data.toList.length = X.size := by simp
  have HRK : Hid (kread (f + 1) X.data.toList d = if st.2 = [] then .ok (.mk st.1 false .zero u) else match vread f st.2.flatten (d - 1) with | .error c => .error c | .ok v => .ok (.mk st.1 true v u)) := Lib.hid (by rw [HRD.out, hb])
  obtain ⟨K0, hK0⟩ : ∃ K0 : ByteArray, (⟨st.1.toArray⟩ : ByteArray) = K0 := ⟨_, rfl⟩
  have HK0 := Lib.hid hK0
  have q1 : IntKind.i64.wrap (d - 1) = d - 1 := IntWalk.i64_in _ (by omega)
  have HX1 : Hid (w1.heap[g + 1]? = some (.cells #[.string K0, .bool false, .int .i64 0, .string ⟨#[]⟩, .bool false, .int .u64 0, .slice none 0 0, .slice none 0 0, .string ⟨#[]⟩, .string ⟨#[]⟩, .string ⟨#[]⟩] 79 (0, 0))) := Lib.hid (by rw [← hK0]; exact h1)
  have hcp : w1.cell? ⟨g + 2, 0, none⟩ = some (.slice ao st.2.length cap) := row_cell h2 (j := 0) rfl
  have HWH := Lib.hid (vwhole_any 2 (d - 1) (.slice ao st.2.length cap) st.2 (g + 2 + 1) 134 (vread f) w1 (Lib.hid h3) (by omega) (by omega) HE3.out (Lib.hid (fun hn Y w' hY => by
   have hz : Y.size = st.2.flatten.length := by rw [← hY]; simp
   have := hvr.out Y (d - 1) w' (by have := hle.1 hn; omega) (by omega)
   rw [hY] at this
   exact this)))
  clear hb h1 h2 h3 hp hd0 hle hXl hK0
  go_wp2_with fail
  refine HWH.out.mono ?_; intro e w2 hpost
  obtain ⟨hb2, hcase⟩ := hpost
  have HR2 := Lib.hid ((hb2.block g (row_lt HR1.out)).trans HR1.out)
  have HX2 := Lib.hid ((hb2.block _ (row_lt HX1.out)).trans HX1.out)
  have HB2 := Lib.hid (below_step HB1.out hb2)
  have HS1 : Hid (g + 1 < w1.heap.size) := Lib.hid (row_lt HX1.out)
  clear hb2 hcp q1
  by_cases hn : st.2 = []
  ·rw [if_pos hn] at hcase
   subst hcase
   have HBR : Hid (kread (f + 1) X.data.toList d = .ok (.mk st.1 false .zero u)) := Lib.hid (by rw [HRK.out, if_pos hn])
   clear hn
   unfold vzero
   have hx0 : w2.cell? ⟨g + 1, 0, none⟩ = some (.string K0) := row_cell HX2.out (j := 0) rfl
   have fx0 : w2.frozen? ⟨g + 1, 0, none⟩ = false := row_thaw HX2.out 0
   have hx1 : w2.cell? ⟨g + 1, 1, none⟩ = some (.bool false) := row_cell HX2.out (j := 1) rfl
   have fx1 : w2.frozen? ⟨g + 1, 1, none⟩ = false := row_thaw HX2.out 1
   have hx2 : w2.cell? ⟨g + 1, 2, none⟩ = some (.int .i64 0) := row_cell HX2.out (j := 2) rfl
   have fx2 : w2.frozen? ⟨g + 1, 2, none⟩ = false := row_thaw HX2.out 2
   have hx3 : w2.cell? ⟨g + 1, 3, none⟩ = some (.string ⟨#[]⟩) := row_cell HX2.out (j := 3) rfl
   have fx3 : w2.frozen? ⟨g + 1, 3, none⟩ = false := row_thaw HX2.out 3
   have hx4 : w2.cell? ⟨g + 1, 4, none⟩ = some (.bool false) := row_cell HX2.out (j := 4) rfl
   have fx4 : w2.frozen? ⟨g + 1, 4, none⟩ = false := row_thaw HX2.out 4
   have hx5 : w2.cell? ⟨g + 1, 5, none⟩ = some (.int .u64 0) := row_cell HX2.out (j := 5) rfl
   have fx5 : w2.frozen? ⟨g + 1, 5, none⟩ = false := row_thaw HX2.out 5
   have hx6 : w2.cell? ⟨g + 1, 6, none⟩ = some (.slice none 0 0) := row_cell HX2.out (j := 6) rfl
   have fx6 : w2.frozen? ⟨g + 1, 6, none⟩ = false := row_thaw HX2.out 6
   have hx7 : w2.cell? ⟨g + 1, 7, none⟩ = some (.slice none 0 0) := row_cell HX2.out (j := 7) rfl
   have fx7 : w2.frozen? ⟨g + 1, 7, none⟩ = false := row_thaw HX2.out 7
   have hx8 : w2.cell? ⟨g + 1, 8, none⟩ = some (.string ⟨#[]⟩) := row_cell HX2.out (j := 8) rfl
   have fx8 : w2.frozen? ⟨g + 1, 8, none⟩ = false := row_thaw HX2.out 8
   have hx9 : w2.cell? ⟨g + 1, 9, none⟩ = some (.string ⟨#[]⟩) := row_cell HX2.out (j := 9) rfl
   have fx9 : w2.frozen? ⟨g + 1, 9, none⟩ = false := row_thaw HX2.out 9
   have hx10 : w2.cell? ⟨g + 1, 10, none⟩ = some (.string ⟨#[]⟩) := row_cell HX2.out (j := 10) rfl
   have fx10 : w2.frozen? ⟨g + 1, 10, none⟩ = false := row_thaw HX2.out 10
   go_upto_region 6 with fail
   have hrow := key_set9 HX2.out (.int .i64 0) (.string ⟨#[]⟩) (.bool false) (.int .u64 0) (.slice none 0 0) (.slice none 0 0) (.string ⟨#[]⟩) (.string ⟨#[]⟩) (.bool false)
   have hupd := key_set9_upd w2 (g + 1) (.int .i64 0) (.string ⟨#[]⟩) (.bool false) (.int .u64 0) (.slice none 0 0) (.slice none 0 0) (.string ⟨#[]⟩) (.string ⟨#[]⟩) (.bool false)
   obtain ⟨W3, hW3⟩ : ∃ W, (((((((((w2).setCell ⟨g + 1, 2, none⟩ (.int .i64 0)).setCell ⟨g + 1, 3, none⟩ (.string ⟨#[]⟩)).setCell ⟨g + 1, 4, none⟩ (.bool false)).setCell ⟨g + 1, 5, none⟩ (.int .u64 0)).setCell ⟨g + 1, 6, none⟩ (.slice none 0 0)).setCell ⟨g + 1, 7, none⟩ (.slice none 0 0)).setCell ⟨g + 1, 8, none⟩ (.string ⟨#[]⟩)).setCell ⟨g + 1, 9, none⟩ (.string ⟨#[]⟩)).setCell ⟨g + 1, 1, none⟩ (.bool false) = W := ⟨_, rfl⟩
   rw [hW3] at hrow hupd ⊢
   clear hW3 hx0 fx0 hx1 fx1 hx2 fx2 hx3 fx3 hx4 fx4 hx5 fx5 hx6 fx6 hx7 fx7 hx8 fx8 hx9 fx9 hx10 fx10
   have HX3 := Lib.hid hrow
   have HU3 := Lib.hid hupd
   have HR3 := Lib.hid ((hupd.block g (row_lt HR2.out) (fun e => by have e : g = g + 1 := e; omega)).trans HR2.out)
   have HB3 : Hid (Below w.heap.size w W3) := Lib.hid (HB2.out.trans (hupd.below (by have := HB2.out.size; omega) (fun k _ h => by have h : k = g + 1 := h; have := HGG.out; omega)))
   clear hrow hupd
   have hg0 : W3.cell? ⟨g, 0, none⟩ = some (.string ⟨#[]⟩) := row_cell HR3.out (j := 0) rfl
   have fg0 : W3.frozen? ⟨g, 0, none⟩ = false := row_thaw HR3.out 0
   have hg1 : W3.cell? ⟨g, 1, none⟩ = some (.bool false) := row_cell HR3.out (j := 1) rfl
   have fg1 : W3.frozen? ⟨g, 1, none⟩ = false := row_thaw HR3.out 1
   have hg2 : W3.cell? ⟨g, 2, none⟩ = some (.int .i64 0) := row_cell HR3.out (j := 2) rfl
   have fg2 : W3.frozen? ⟨g, 2, none⟩ = false := row_thaw HR3.out 2
   have hg3 : W3.cell? ⟨g, 3, none⟩ = some (.string ⟨#[]⟩) := row_cell HR3.out (j := 3) rfl
   have fg3 : W3.frozen? ⟨g, 3, none⟩ = false := row_thaw HR3.out 3
   have hg4 : W3.cell? ⟨g, 4, none⟩ = some (.bool false) := row_cell HR3.out (j := 4) rfl
   have fg4 : W3.frozen? ⟨g, 4, none⟩ = false := row_thaw HR3.out 4
   have hg5 : W3.cell? ⟨g, 5, none⟩ = some (.int .u64 0) := row_cell HR3.out (j := 5) rfl
   have fg5 : W3.frozen? ⟨g, 5, none⟩ = false := row_thaw HR3.out 5
   have hg6 : W3.cell? ⟨g, 6, none⟩ = some (.slice none 0 0) := row_cell HR3.out (j := 6) rfl
   have fg6 : W3.frozen? ⟨g, 6, none⟩ = false := row_thaw HR3.out 6
   have hg7 : W3.cell? ⟨g, 7, none⟩ = some (.slice none 0 0) := row_cell HR3.out (j := 7) rfl
   have fg7 : W3.frozen? ⟨g, 7, none⟩ = false := row_thaw HR3.out 7
   have hg8 : W3.cell? ⟨g, 8, none⟩ = some (.string ⟨#[]⟩) := row_cell HR3.out (j := 8) rfl
   have fg8 : W3.frozen? ⟨g, 8, none⟩ = false := row_thaw HR3.out 8
   have hg9 : W3.cell? ⟨g, 9, none⟩ = some (.string ⟨#[]⟩) := row_cell HR3.out (j := 9) rfl
   have fg9 : W3.frozen? ⟨g, 9, none⟩ = false := row_thaw HR3.out 9
   have hg10 : W3.cell? ⟨g, 10, none⟩ = some (.string ⟨#[]⟩) := row_cell HR3.out (j := 10) rfl
   have fg10 : W3.frozen? ⟨g, 10, none⟩ = false := row_thaw HR3.out 10
   have hx0 : W3.cell? ⟨g + 1, 0, none⟩ = some (.string K0) := row_cell HX3.out (j := 0) rfl
   have fx0 : W3.frozen? ⟨g + 1, 0, none⟩ = false := row_thaw HX3.out 0
   have hx1 : W3.cell? ⟨g + 1, 1, none⟩ = some (.bool false) := row_cell HX3.out (j := 1) rfl
   have fx1 : W3.frozen? ⟨g + 1, 1, none⟩ = false := row_thaw HX3.out 1
   have hx2 : W3.cell? ⟨g + 1, 2, none⟩ = some (.int .i64 0) := row_cell HX3.out (j := 2) rfl
   have fx2 : W3.frozen? ⟨g + 1, 2, none⟩ = false := row_thaw HX3.out 2
   have hx3 : W3.cell? ⟨g + 1, 3, none⟩ = some (.string ⟨#[]⟩) := row_cell HX3.out (j := 3) rfl
   have fx3 : W3.frozen? ⟨g + 1, 3, none⟩ = false := row_thaw HX3.out 3
   have hx4 : W3.cell? ⟨g + 1, 4, none⟩ = some (.bool false) := row_cell HX3.out (j := 4) rfl
   have fx4 : W3.frozen? ⟨g + 1, 4, none⟩ = false := row_thaw HX3.out 4
   have hx5 : W3.cell? ⟨g + 1, 5, none⟩ = some (.int .u64 0) := row_cell HX3.out (j := 5) rfl
   have fx5 : W3.frozen? ⟨g + 1, 5, none⟩ = false := row_thaw HX3.out 5
   have hx6 : W3.cell? ⟨g + 1, 6, none⟩ = some (.slice none 0 0) := row_cell HX3.out (j := 6) rfl
   have fx6 : W3.frozen? ⟨g + 1, 6, none⟩ = false := row_thaw HX3.out 6
   have hx7 : W3.cell? ⟨g + 1, 7, none⟩ = some (.slice none 0 0) := row_cell HX3.out (j := 7) rfl
   have fx7 : W3.frozen? ⟨g + 1, 7, none⟩ = false := row_thaw HX3.out 7
   have hx8 : W3.cell? ⟨g + 1, 8, none⟩ = some (.string ⟨#[]⟩) := row_cell HX3.out (j := 8) rfl
   have fx8 : W3.frozen? ⟨g + 1, 8, none⟩ = false := row_thaw HX3.out 8
   have hx9 : W3.cell? ⟨g + 1, 9, none⟩ = some (.string ⟨#[]⟩) := row_cell HX3.out (j := 9) rfl
   have fx9 : W3.frozen? ⟨g + 1, 9, none⟩ = false := row_thaw HX3.out 9
   have hx10 : W3.cell? ⟨g + 1, 10, none⟩ = some (.string ⟨#[]⟩) := row_cell HX3.out (j := 10) rfl
   have fx10 : W3.frozen? ⟨g + 1, 10, none⟩ = false := row_thaw HX3.out 10
   go_wp2_with fail
   have hu4 := Upd.set W3 ⟨g + 1, 10, none⟩ (.string ⟨u.toArray⟩)
   have hr4 := (hu4.block g (row_lt HR3.out) (fun e => by have e : g = g + 1 := e; omega)).trans HR3.out
   have hua := key_set11_upd (W3.setCell ⟨g + 1, 10, none⟩ (.string ⟨u.toArray⟩)) g (.string K0) (.bool false) (.int .i64 0) (.string ⟨#[]⟩) (.bool false) (.int .u64 0) (.slice none 0 0) (.slice none 0 0) (.string ⟨#[]⟩) (.string ⟨#[]⟩) (.string ⟨u.toArray⟩)
   refine body_cell2v rfl rfl (load_key (key_set11 hr4 _ _ _ _ _ _ _ _ _ _ _) rfl) rfl ?_
   refine ⟨(HB3.out.trans (hu4.below (by have := HB3.out.size; omega) (fun k _ h => by have h : k = g + 1 := h; have := HGG.out; omega))).trans (hua.below (by have := HB3.out.size; have := hu4.size; omega) (fun k _ h => by have h : k = g := h; have := HGG.out; omega)), ?_⟩
   rw [HBR.out]
   refine ⟨[strV st.1, .bool false] ++ [.int .i64 0, strV [], .bool false, .int .u64 0, .slice none 0 0, .slice none 0 0, strV [], strV []] ++ [strV u], by unfold strV; rw [HK0.out]; rfl, krel_make _ _ _ (vrel_plain _ _ _ _ _ _)⟩
  ·rw [if_neg hn] at hcase
   cases hs : vread f st.2.flatten (d - 1) with
   | error c =>
    rw [hs] at hcase
    obtain ⟨y, rfl, hew⟩ := hcase
    obtain ⟨T', z, rfl⟩ := hew.iface
    have HBR : Hid (kread (f + 1) X.data.toList d = .error c) := Lib.hid (by rw [HRK.out, if_neg hn, hs])
    have HEW := Lib.hid hew
    clear hew hs hn
    unfold vzero
    have hx0 : w2.cell? ⟨g + 1, 0, none⟩ = some (.string K0) := row_cell HX2.out (j := 0) rfl
    have fx0 : w2.frozen? ⟨g + 1, 0, none⟩ = false := row_thaw HX2.out 0
    have hx1 : w2.cell? ⟨g + 1, 1, none⟩ = some (.bool false) := row_cell HX2.out (j := 1) rfl
    have fx1 : w2.frozen? ⟨g + 1, 1, none⟩ = false := row_thaw HX2.out 1
    have hx2 : w2.cell? ⟨g + 1, 2, none⟩ = some (.int .i64 0) := row_cell HX2.out (j := 2) rfl
    have fx2 : w2.frozen? ⟨g + 1, 2, none⟩ = false := row_thaw HX2.out 2
    have hx3 : w2.cell? ⟨g + 1, 3, none⟩ = some (.string ⟨#[]⟩) := row_cell HX2.out (j := 3) rfl
    have fx3 : w2.frozen? ⟨g + 1, 3, none⟩ = false := row_thaw HX2.out 3
    have hx4 : w2.cell? ⟨g + 1, 4, none⟩ = some (.bool false) := row_cell HX2.out (j := 4) rfl
    have fx4 : w2.frozen? ⟨g + 1, 4, none⟩ = false := row_thaw HX2.out 4
    have hx5 : w2.cell? ⟨g + 1, 5, none⟩ = some (.int .u64 0) := row_cell HX2.out (j := 5) rfl
    have fx5 : w2.frozen? ⟨g + 1, 5, none⟩ = false := row_thaw HX2.out 5
    have hx6 : w2.cell? ⟨g + 1, 6, none⟩ = some (.slice none 0 0) := row_cell HX2.out (j := 6) rfl
    have fx6 : w2.frozen? ⟨g + 1, 6, none⟩ = false := row_thaw HX2.out 6
    have hx7 : w2.cell? ⟨g + 1, 7, none⟩ = some (.slice none 0 0) := row_cell HX2.out (j := 7) rfl
    have fx7 : w2.frozen? ⟨g + 1, 7, none⟩ = false := row_thaw HX2.out 7
    have hx8 : w2.cell? ⟨g + 1, 8, none⟩ = some (.string ⟨#[]⟩) := row_cell HX2.out (j := 8) rfl
    have fx8 : w2.frozen? ⟨g + 1, 8, none⟩ = false := row_thaw HX2.out 8
    have hx9 : w2.cell? ⟨g + 1, 9, none⟩ = some (.string ⟨#[]⟩) := row_cell HX2.out (j := 9) rfl
    have fx9 : w2.frozen? ⟨g + 1, 9, none⟩ = false := row_thaw HX2.out 9
    have hx10 : w2.cell? ⟨g + 1, 10, none⟩ = some (.string ⟨#[]⟩) := row_cell HX2.out (j := 10) rfl
    have fx10 : w2.frozen? ⟨g + 1, 10, none⟩ = false := row_thaw HX2.out 10
    go_upto_region 6 with fail
    have hrow := key_set9 HX2.out (.int .i64 0) (.string ⟨#[]⟩) (.bool false) (.int .u64 0) (.slice none 0 0) (.slice none 0 0) (.string ⟨#[]⟩) (.string ⟨#[]⟩) (.bool false)
    have hupd := key_set9_upd w2 (g + 1) (.int .i64 0) (.string ⟨#[]⟩) (.bool false) (.int .u64 0) (.slice none 0 0) (.slice none 0 0) (.string ⟨#[]⟩) (.string ⟨#[]⟩) (.bool false)
    obtain ⟨W3, hW3⟩ : ∃ W, (((((((((w2).setCell ⟨g + 1, 2, none⟩ (.int .i64 0)).setCell ⟨g + 1, 3, none⟩ (.string ⟨#[]⟩)).setCell ⟨g + 1, 4, none⟩ (.bool false)).setCell ⟨g + 1, 5, none⟩ (.int .u64 0)).setCell ⟨g + 1, 6, none⟩ (.slice none 0 0)).setCell ⟨g + 1, 7, none⟩ (.slice none 0 0)).setCell ⟨g + 1, 8, none⟩ (.string ⟨#[]⟩)).setCell ⟨g + 1, 9, none⟩ (.string ⟨#[]⟩)).setCell ⟨g + 1, 1, none⟩ (.bool false) = W := ⟨_, rfl⟩
    rw [hW3] at hrow hupd ⊢
    clear hW3 hx0 fx0 hx1 fx1 hx2 fx2 hx3 fx3 hx4 fx4 hx5 fx5 hx6 fx6 hx7 fx7 hx8 fx8 hx9 fx9 hx10 fx10
    have HX3 := Lib.hid hrow
    have HU3 := Lib.hid hupd
    have HR3 := Lib.hid ((hupd.block g (row_lt HR2.out) (fun e => by have e : g = g + 1 := e; omega)).trans HR2.out)
    have HB3 : Hid (Below w.heap.size w W3) := Lib.hid (HB2.out.trans (hupd.below (by have := HB2.out.size; omega) (fun k _ h => by have h : k = g + 1 := h; have := HGG.out; omega)))
    clear hrow hupd
    have hg0 : W3.cell? ⟨g, 0, none⟩ = some (.string ⟨#[]⟩) := row_cell HR3.out (j := 0) rfl
    have fg0 : W3.frozen? ⟨g, 0, none⟩ = false := row_thaw HR3.out 0
    have hg1 : W3.cell? ⟨g, 1, none⟩ = some (.bool false) := row_cell HR3.out (j := 1) rfl
    have fg1 : W3.frozen? ⟨g, 1, none⟩ = false := row_thaw HR3.out 1
    have hg2 : W3.cell? ⟨g, 2, none⟩ = some (.int .i64 0) := row_cell HR3.out (j := 2) rfl
    have fg2 : W3.frozen? ⟨g, 2, none⟩ = false := row_thaw HR3.out 2
    have hg3 : W3.cell? ⟨g, 3, none⟩ = some (.string ⟨#[]⟩) := row_cell HR3.out (j := 3) rfl
    have fg3 : W3.frozen? ⟨g, 3, none⟩ = false := row_thaw HR3.out 3
    have hg4 : W3.cell? ⟨g, 4, none⟩ = some (.bool false) := row_cell HR3.out (j := 4) rfl
    have fg4 : W3.frozen? ⟨g, 4, none⟩ = false := row_thaw HR3.out 4
    have hg5 : W3.cell? ⟨g, 5, none⟩ = some (.int .u64 0) := row_cell HR3.out (j := 5) rfl
    have fg5 : W3.frozen? ⟨g, 5, none⟩ = false := row_thaw HR3.out 5
    have hg6 : W3.cell? ⟨g, 6, none⟩ = some (.slice none 0 0) := row_cell HR3.out (j := 6) rfl
    have fg6 : W3.frozen? ⟨g, 6, none⟩ = false := row_thaw HR3.out 6
    have hg7 : W3.cell? ⟨g, 7, none⟩ = some (.slice none 0 0) := row_cell HR3.out (j := 7) rfl
    have fg7 : W3.frozen? ⟨g, 7, none⟩ = false := row_thaw HR3.out 7
    have hg8 : W3.cell? ⟨g, 8, none⟩ = some (.string ⟨#[]⟩) := row_cell HR3.out (j := 8) rfl
    have fg8 : W3.frozen? ⟨g, 8, none⟩ = false := row_thaw HR3.out 8
    have hg9 : W3.cell? ⟨g, 9, none⟩ = some (.string ⟨#[]⟩) := row_cell HR3.out (j := 9) rfl
    have fg9 : W3.frozen? ⟨g, 9, none⟩ = false := row_thaw HR3.out 9
    have hg10 : W3.cell? ⟨g, 10, none⟩ = some (.string ⟨#[]⟩) := row_cell HR3.out (j := 10) rfl
    have fg10 : W3.frozen? ⟨g, 10, none⟩ = false := row_thaw HR3.out 10
    go_wp2_with fail
    have hua := key_set11_upd W3 g (.string ⟨#[]⟩) (.bool false) (.int .i64 0) (.string ⟨#[]⟩) (.bool false) (.int .u64 0) (.slice none 0 0) (.slice none 0 0) (.string ⟨#[]⟩) (.string ⟨#[]⟩) (.string ⟨#[]⟩)
    refine body_cell2v rfl rfl (load_key (key_set11 HR3.out _ _ _ _ _ _ _ _ _ _ _) rfl) rfl ?_
    refine ⟨HB3.out.trans (hua.below (by have := HB3.out.size; omega) (fun k _ h => by have h : k = g := h; have := HGG.out; omega)), ?_⟩
    rw [HBR.out]
    obtain ⟨ws, he⟩ := HEW.out
    exact ⟨_, 0, rfl, by omega, ws, isErr_upd hua (fun k hk b m e h => by have hk : k = g := hk; subst hk; rw [HR3.out] at h; simp at h) (isErr_upd HU3.out (fun k hk b m e h => by have hk : k = g + 1 := hk; subst hk; rw [HX2.out] at h; simp at h) he)⟩
   | ok x =>
    rw [hs] at hcase
    obtain ⟨cs, rfl, hrel⟩ := hcase
    have HBR : Hid (kread (f + 1) X.data.toList d = .ok (.mk st.1 true x u)) := Lib.hid (by rw [HRK.out, if_neg hn, hs])
    have HREL := Lib.hid hrel
    obtain ⟨k, S, b0, n, lo, ln, lc, mo, mn, mc, I, U, hcs⟩ := hrel.form
    have HCS := Lib.hid hcs
    rw [hcs]
    clear hcs hrel hs hn
    have hx0 : w2.cell? ⟨g + 1, 0, none⟩ = some (.string K0) := row_cell HX2.out (j := 0) rfl
    have fx0 : w2.frozen? ⟨g + 1, 0, none⟩ = false := row_thaw HX2.out 0
    have hx1 : w2.cell? ⟨g + 1, 1, none⟩ = some (.bool false) := row_cell HX2.out (j := 1) rfl
    have fx1 : w2.frozen? ⟨g + 1, 1, none⟩ = false := row_thaw HX2.out 1
    have hx2 : w2.cell? ⟨g + 1, 2, none⟩ = some (.int .i64 0) := row_cell HX2.out (j := 2) rfl
    have fx2 : w2.frozen? ⟨g + 1, 2, none⟩ = false := row_thaw HX2.out 2
    have hx3 : w2.cell? ⟨g + 1, 3, none⟩ = some (.string ⟨#[]⟩) := row_cell HX2.out (j := 3) rfl
    have fx3 : w2.frozen? ⟨g + 1, 3, none⟩ = false := row_thaw HX2.out 3
    have hx4 : w2.cell? ⟨g + 1, 4, none⟩ = some (.bool false) := row_cell HX2.out (j := 4) rfl
    have fx4 : w2.frozen? ⟨g + 1, 4, none⟩ = false := row_thaw HX2.out 4
    have hx5 : w2.cell? ⟨g + 1, 5, none⟩ = some (.int .u64 0) := row_cell HX2.out (j := 5) rfl
    have fx5 : w2.frozen? ⟨g + 1, 5, none⟩ = false := row_thaw HX2.out 5
    have hx6 : w2.cell? ⟨g + 1, 6, none⟩ = some (.slice none 0 0) := row_cell HX2.out (j := 6) rfl
    have fx6 : w2.frozen? ⟨g + 1, 6, none⟩ = false := row_thaw HX2.out 6
    have hx7 : w2.cell? ⟨g + 1, 7, none⟩ = some (.slice none 0 0) := row_cell HX2.out (j := 7) rfl
    have fx7 : w2.frozen? ⟨g + 1, 7, none⟩ = false := row_thaw HX2.out 7
    have hx8 : w2.cell? ⟨g + 1, 8, none⟩ = some (.string ⟨#[]⟩) := row_cell HX2.out (j := 8) rfl
    have fx8 : w2.frozen? ⟨g + 1, 8, none⟩ = false := row_thaw HX2.out 8
    have hx9 : w2.cell? ⟨g + 1, 9, none⟩ = some (.string ⟨#[]⟩) := row_cell HX2.out (j := 9) rfl
    have fx9 : w2.frozen? ⟨g + 1, 9, none⟩ = false := row_thaw HX2.out 9
    have hx10 : w2.cell? ⟨g + 1, 10, none⟩ = some (.string ⟨#[]⟩) := row_cell HX2.out (j := 10) rfl
    have fx10 : w2.frozen? ⟨g + 1, 10, none⟩ = false := row_thaw HX2.out 10
    go_upto_region 6 with fail
    have hrow := key_set9 HX2.out (.int .i64 k) (.string S) (.bool b0) (.int .u64 n) (.slice lo ln lc) (.slice mo mn mc) (.string I) (.string U) (.bool true)
    have hupd := key_set9_upd w2 (g + 1) (.int .i64 k) (.string S) (.bool b0) (.int .u64 n) (.slice lo ln lc) (.slice mo mn mc) (.string I) (.string U) (.bool true)
    obtain ⟨W3, hW3⟩ : ∃ W, (((((((((w2).setCell ⟨g + 1, 2, none⟩ (.int .i64 k)).setCell ⟨g + 1, 3, none⟩ (.string S)).setCell ⟨g + 1, 4, none⟩ (.bool b0)).setCell ⟨g + 1, 5, none⟩ (.int .u64 n)).setCell ⟨g + 1, 6, none⟩ (.slice lo ln lc)).setCell ⟨g + 1, 7, none⟩ (.slice mo mn mc)).setCell ⟨g + 1, 8, none⟩ (.string I)).setCell ⟨g + 1, 9, none⟩ (.string U)).setCell ⟨g + 1, 1, none⟩ (.bool true) = W := ⟨_, rfl⟩
    rw [hW3] at hrow hupd ⊢
    clear hW3 hx0 fx0 hx1 fx1 hx2 fx2 hx3 fx3 hx4 fx4 hx5 fx5 hx6 fx6 hx7 fx7 hx8 fx8 hx9 fx9 hx10 fx10
    have HX3 := Lib.hid hrow
    have HU3 := Lib.hid hupd
    have HR3 := Lib.hid ((hupd.block g (row_lt HR2.out) (fun e => by have e : g = g + 1 := e; omega)).trans HR2.out)
    have HB3 : Hid (Below w.heap.size w W3) := Lib.hid (HB2.out.trans (hupd.below (by have := HB2.out.size; omega) (fun k _ h => by have h : k = g + 1 := h; have := HGG.out; omega)))
    clear hrow hupd
    have hg0 : W3.cell? ⟨g, 0, none⟩ = some (.string ⟨#[]⟩) := row_cell HR3.out (j := 0) rfl
    have fg0 : W3.frozen? ⟨g, 0, none⟩ = false := row_thaw HR3.out 0
    have hg1 : W3.cell? ⟨g, 1, none⟩ = some (.bool false) := row_cell HR3.out (j := 1) rfl
    have fg1 : W3.frozen? ⟨g, 1, none⟩ = false := row_thaw HR3.out 1
    have hg2 : W3.cell? ⟨g, 2, none⟩ = some (.int .i64 0) := row_cell HR3.out (j := 2) rfl
    have fg2 : W3.frozen? ⟨g, 2, none⟩ = false := row_thaw HR3.out 2
    have hg3 : W3.cell? ⟨g, 3, none⟩ = some (.string ⟨#[]⟩) := row_cell HR3.out (j := 3) rfl
    have fg3 : W3.frozen? ⟨g, 3, none⟩ = false := row_thaw HR3.out 3
    have hg4 : W3.cell? ⟨g, 4, none⟩ = some (.bool false) := row_cell HR3.out (j := 4) rfl
    have fg4 : W3.frozen? ⟨g, 4, none⟩ = false := row_thaw HR3.out 4
    have hg5 : W3.cell? ⟨g, 5, none⟩ = some (.int .u64 0) := row_cell HR3.out (j := 5) rfl
    have fg5 : W3.frozen? ⟨g, 5, none⟩ = false := row_thaw HR3.out 5
    have hg6 : W3.cell? ⟨g, 6, none⟩ = some (.slice none 0 0) := row_cell HR3.out (j := 6) rfl
    have fg6 : W3.frozen? ⟨g, 6, none⟩ = false := row_thaw HR3.out 6
    have hg7 : W3.cell? ⟨g, 7, none⟩ = some (.slice none 0 0) := row_cell HR3.out (j := 7) rfl
    have fg7 : W3.frozen? ⟨g, 7, none⟩ = false := row_thaw HR3.out 7
    have hg8 : W3.cell? ⟨g, 8, none⟩ = some (.string ⟨#[]⟩) := row_cell HR3.out (j := 8) rfl
    have fg8 : W3.frozen? ⟨g, 8, none⟩ = false := row_thaw HR3.out 8
    have hg9 : W3.cell? ⟨g, 9, none⟩ = some (.string ⟨#[]⟩) := row_cell HR3.out (j := 9) rfl
    have fg9 : W3.frozen? ⟨g, 9, none⟩ = false := row_thaw HR3.out 9
    have hg10 : W3.cell? ⟨g, 10, none⟩ = some (.string ⟨#[]⟩) := row_cell HR3.out (j := 10) rfl
    have fg10 : W3.frozen? ⟨g, 10, none⟩ = false := row_thaw HR3.out 10
    have hx0 : W3.cell? ⟨g + 1, 0, none⟩ = some (.string K0) := row_cell HX3.out (j := 0) rfl
    have fx0 : W3.frozen? ⟨g + 1, 0, none⟩ = false := row_thaw HX3.out 0
    have hx1 : W3.cell? ⟨g + 1, 1, none⟩ = some (.bool true) := row_cell HX3.out (j := 1) rfl
    have fx1 : W3.frozen? ⟨g + 1, 1, none⟩ = false := row_thaw HX3.out 1
    have hx2 : W3.cell? ⟨g + 1, 2, none⟩ = some (.int .i64 k) := row_cell HX3.out (j := 2) rfl
    have fx2 : W3.frozen? ⟨g + 1, 2, none⟩ = false := row_thaw HX3.out 2
    have hx3 : W3.cell? ⟨g + 1, 3, none⟩ = some (.string S) := row_cell HX3.out (j := 3) rfl
    have fx3 : W3.frozen? ⟨g + 1, 3, none⟩ = false := row_thaw HX3.out 3
    have hx4 : W3.cell? ⟨g + 1, 4, none⟩ = some (.bool b0) := row_cell HX3.out (j := 4) rfl
    have fx4 : W3.frozen? ⟨g + 1, 4, none⟩ = false := row_thaw HX3.out 4
    have hx5 : W3.cell? ⟨g + 1, 5, none⟩ = some (.int .u64 n) := row_cell HX3.out (j := 5) rfl
    have fx5 : W3.frozen? ⟨g + 1, 5, none⟩ = false := row_thaw HX3.out 5
    have hx6 : W3.cell? ⟨g + 1, 6, none⟩ = some (.slice lo ln lc) := row_cell HX3.out (j := 6) rfl
    have fx6 : W3.frozen? ⟨g + 1, 6, none⟩ = false := row_thaw HX3.out 6
    have hx7 : W3.cell? ⟨g + 1, 7, none⟩ = some (.slice mo mn mc) := row_cell HX3.out (j := 7) rfl
    have fx7 : W3.frozen? ⟨g + 1, 7, none⟩ = false := row_thaw HX3.out 7
    have hx8 : W3.cell? ⟨g + 1, 8, none⟩ = some (.string I) := row_cell HX3.out (j := 8) rfl
    have fx8 : W3.frozen? ⟨g + 1, 8, none⟩ = false := row_thaw HX3.out 8
    have hx9 : W3.cell? ⟨g + 1, 9, none⟩ = some (.string U) := row_cell HX3.out (j := 9) rfl
    have fx9 : W3.frozen? ⟨g + 1, 9, none⟩ = false := row_thaw HX3.out 9
    have hx10 : W3.cell? ⟨g + 1, 10, none⟩ = some (.string ⟨#[]⟩) := row_cell HX3.out (j := 10) rfl
    have fx10 : W3.frozen? ⟨g + 1, 10, none⟩ = false := row_thaw HX3.out 10
    go_wp2_with fail
    have hu4 := Upd.set W3 ⟨g + 1, 10, none⟩ (.string ⟨u.toArray⟩)
    have hr4 := (hu4.block g (row_lt HR3.out) (fun e => by have e : g = g + 1 := e; omega)).trans HR3.out
    have hua := key_set11_upd (W3.setCell ⟨g + 1, 10, none⟩ (.string ⟨u.toArray⟩)) g (.string K0) (.bool true) (.int .i64 k) (.string S) (.bool b0) (.int .u64 n) (.slice lo ln lc) (.slice mo mn mc) (.string I) (.string U) (.string ⟨u.toArray⟩)
    refine body_cell2v rfl rfl (load_key (key_set11 hr4 _ _ _ _ _ _ _ _ _ _ _) rfl) rfl ?_
    refine ⟨(HB3.out.trans (hu4.below (by have := HB3.out.size; omega) (fun k _ h => by have h : k = g + 1 := h; have := HGG.out; omega))).trans (hua.below (by have := HB3.out.size; have := hu4.size; omega) (fun k _ h => by have h : k = g := h; have := HGG.out; omega)), ?_⟩
    rw [HBR.out]
    refine ⟨[strV st.1, .bool true] ++ cs ++ [strV u], by rw [HCS.out]; unfold strV; rw [HK0.out]; rfl, krel_make _ _ _ ?_⟩
    have hne : ∀ k, w1.heap.size ≤ k → ¬ (k = g + 1) ∧ ¬ (k = g) := fun k hk => by have := HS1.out; omega
    exact VRel.upd hua (fun k hk h => (hne k hk).2 h) (fun k hk => by have := HB1.out.size; omega) _ _ (VRel.upd hu4 (fun k hk h => (hne k hk).1 h) (fun k hk => hk) _ _ (VRel.upd HU3.out (fun k hk h => (hne k hk).1 h) (fun k hk => hk) _ _ HREL.out))
theorem both_any : ∀ (f : Nat) (X : ByteArray) (d : Int) (w : World), X.size < f → X.size ≤ 1000000 → -9223372036854775808 ≤ d ∧ d ≤ 9223372036854775807 →
  Calls Tryz.prog 134 #[.string X, .int .i64 d] w (VPost (vread f X.data.toList d) X.size w) ∧ Calls Tryz.prog 76 #[.string X, .int .i64 d] w (KPost (kread f X.data.toList d) X.size w)
 | 0, X, d, w, hf, _, _ => by omega
 | f + 1, X, d, w, hf, hX, hd =>
  ⟨vun_step f X d w hX hd (Lib.hid fun Y d' w' hY hd' => (both_any f Y d' w' (by omega) (by omega) hd').1) (Lib.hid fun Y d' w' hY hd' => (both_any f Y d' w' (by omega) (by omega) hd').2),
  kun_step f X d w hX hd (Lib.hid fun Y d' w' hY hd' => (both_any f Y d' w' (by omega) (by omega) hd').1)⟩
open Go.RowKit
theorem ukey_any : UKey := fun Y d' w' hY hd => ((both_any 1000001 Y d' w' (by omega) hY hd).2).mono fun _ _ h => kpost_rd h
end Go.Proofs.YtficgfemmijaaaaGreatDoor
