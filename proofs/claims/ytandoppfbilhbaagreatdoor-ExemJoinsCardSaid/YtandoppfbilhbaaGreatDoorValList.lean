/-
  value.list, of values, of attributes.
-/
import Derived.Test.YtandoppfbilhbaaGreatDoorAdd
import Derived.Test.YtandoppfbilhbaaGreatDoorValTake
namespace Go.Proofs.YtandoppfbilhbaaGreatDoor
open Go.RowKit

/-- reading one, of what comes of it -/
def VPost (rd : Except Nat Val) (n : Nat) (w : World) (e : Ending) (w' : World) : Prop := Below w.heap.size w w' ∧ match rd with
  | .error c => ∃ v q, e = .returned (.tuple #[.agg vzero, v]) ∧ q ≤ n ∧ EW w' v q c
  | .ok x => ∃ cs, e = .returned (.tuple #[.agg cs.toArray, .nilIface]) ∧ VRel w' (fun k => w.heap.size ≤ k) x cs
/-- a list that is being read, at block b -/
def VLAt (b : Nat) (xs : List Val) (P : Nat → Prop) (w : World) : Prop := ∃ (v : Value) (css : List (List Value)) (Q : Nat → Prop), w.heap[b]? = some (.cells #[v] 78 (0, 0)) ∧ w.ownsRow (b + 1) 80 8 v xs.length css.flatten ∧ css.length = xs.length ∧ (∀ j (h1 : j < xs.length) (h2 : j < css.length), VRel w Q xs[j] css[j]) ∧ (∀ k, Q k → k < w.heap.size ∧ b + 1 ≤ k ∧ v.ownBlock ≠ some k) ∧ P = fun k => k = b ∨ v.ownBlock = some k ∨ Q k
def VAddPost (b : Nat) (xs : List Val) (P : Nat → Prop) (rd : Except Nat Val) (w : World) (e : Ending) (w' : World) : Prop := Upd P w w' ∧ match rd with
  | .error c => ∃ y, e = .returned y ∧ EC w' y c
  | .ok x => e = .returned .nilIface ∧ ∃ P', VLAt b (xs ++ [x]) P' w' ∧ ∀ k, P' k → P k ∨ w.heap.size ≤ k
theorem vpost_rd {rd : Except Nat Val} {n : Nat} {w w' : World} {e : Ending} (h : VPost rd n w e w') : RdPost vcel vzero rd n w e w' := by cases rd <;> exact h
theorem vadd_any (b : Nat) (xs : List Val) (P : Nat → Prop) (F : Nat) (X : ByteArray) (d : Int) (rd : Except Nat Val) (w : World) (hET : ∀ args w, (callFunc F args).run Tryz.prog w = .ok (.enter F args) w) (h : Hid (VLAt b xs P w)) (hl : xs.length ≤ 1000000) (hread : Hid (∀ w', Calls Tryz.prog F #[.string X, .int .i64 d] w' (VPost rd X.size w'))) :
    Calls Tryz.prog 177 #[.pointer (some ⟨b, 0, none⟩), .string X, .int .i64 d, .func (.func F) #[] #[]] w (VAddPost b xs P rd w) := by
  obtain ⟨v, css, Q, h1, h2, h3, h4, h5, rfl⟩ := h.out
  refine (addv_any b 0 (b + 1) #[v] 78 v xs (fun k => v.ownBlock = some k ∨ Q k) F X d rd w hET (Lib.hid h1) rfl ⟨Nat.lt_succ_self _, row_lt h1⟩ (Lib.hid ⟨css, Q, h2, h3, h4, h5, rfl⟩) hl (Lib.hid fun w' => (hread.out w').mono fun _ _ h => vpost_rd h)).mono ?_
  rintro e w' ⟨hu, hcase⟩
  refine ⟨hu, ?_⟩
  cases rd with
  | error c => exact hcase
  | ok x =>
    obtain ⟨rfl, v', P', g1, ⟨css', Q', g2, g3, g4, g5, rfl⟩, g6⟩ := hcase
    refine ⟨rfl, _, ⟨v', css', Q', g1, g2, g3, g4, g5, rfl⟩, fun k hk => ?_⟩
    rcases hk with hk | hk
    · exact .inl (.inl hk)
    · exact (g6 k hk).imp .inr id
/-- reading one, of what comes of it -/
def KPost (rd : Except Nat KV) (n : Nat) (w : World) (e : Ending) (w' : World) : Prop := Below w.heap.size w w' ∧ match rd with
  | .error c => ∃ v q, e = .returned (.tuple #[.agg kzero, v]) ∧ q ≤ n ∧ EW w' v q c
  | .ok x => ∃ cs, e = .returned (.tuple #[.agg cs.toArray, .nilIface]) ∧ KRel w' (fun k => w.heap.size ≤ k) x cs
/-- a list that is being read, at block b -/
def KLAt (b : Nat) (xs : List KV) (P : Nat → Prop) (w : World) : Prop := ∃ (v : Value) (css : List (List Value)) (Q : Nat → Prop), w.heap[b]? = some (.cells #[v] 23 (0, 0)) ∧ w.ownsRow (b + 1) 82 11 v xs.length css.flatten ∧ css.length = xs.length ∧ (∀ j (h1 : j < xs.length) (h2 : j < css.length), KRel w Q xs[j] css[j]) ∧ (∀ k, Q k → k < w.heap.size ∧ b + 1 ≤ k ∧ v.ownBlock ≠ some k) ∧ P = fun k => k = b ∨ v.ownBlock = some k ∨ Q k
def KAddPost (b : Nat) (xs : List KV) (P : Nat → Prop) (rd : Except Nat KV) (w : World) (e : Ending) (w' : World) : Prop := Upd P w w' ∧ match rd with
  | .error c => ∃ y, e = .returned y ∧ EC w' y c
  | .ok x => e = .returned .nilIface ∧ ∃ P', KLAt b (xs ++ [x]) P' w' ∧ ∀ k, P' k → P k ∨ w.heap.size ≤ k
theorem kpost_rd {rd : Except Nat KV} {n : Nat} {w w' : World} {e : Ending} (h : KPost rd n w e w') : RdPost kcel kzero rd n w e w' := by cases rd <;> exact h
theorem kadd_any (b : Nat) (xs : List KV) (P : Nat → Prop) (F : Nat) (X : ByteArray) (d : Int) (rd : Except Nat KV) (w : World) (hET : ∀ args w, (callFunc F args).run Tryz.prog w = .ok (.enter F args) w) (h : Hid (KLAt b xs P w)) (hl : xs.length ≤ 1000000) (hread : Hid (∀ w', Calls Tryz.prog F #[.string X, .int .i64 d] w' (KPost rd X.size w'))) :
    Calls Tryz.prog 86 #[.pointer (some ⟨b, 0, none⟩), .string X, .int .i64 d, .func (.func F) #[] #[]] w (KAddPost b xs P rd w) := by
  obtain ⟨v, css, Q, h1, h2, h3, h4, h5, rfl⟩ := h.out
  refine (addk_any b 0 (b + 1) #[v] 23 v xs (fun k => v.ownBlock = some k ∨ Q k) F X d rd w hET (Lib.hid h1) rfl ⟨Nat.lt_succ_self _, row_lt h1⟩ (Lib.hid ⟨css, Q, h2, h3, h4, h5, rfl⟩) hl (Lib.hid fun w' => (hread.out w').mono fun _ _ h => kpost_rd h)).mono ?_
  rintro e w' ⟨hu, hcase⟩
  refine ⟨hu, ?_⟩
  cases rd with
  | error c => exact hcase
  | ok x =>
    obtain ⟨rfl, v', P', g1, ⟨css', Q', g2, g3, g4, g5, rfl⟩, g6⟩ := hcase
    refine ⟨rfl, _, ⟨v', css', Q', g1, g2, g3, g4, g5, rfl⟩, fun k hk => ?_⟩
    rcases hk with hk | hk
    · exact .inl (.inl hk)
    · exact (g6 k hk).imp .inr id
theorem lfold_len {α : Type} {rd : List UInt8 → Int → Except Nat α} {d e : Int} : ∀ (rs : List Rec) {xs ys : List α}, (∀ r ∈ rs, IsRec e r) → mfold itk (lstep rd d) xs rs = .ok ys → ys.length ≤ xs.length + (rs.flatMap Rec.raw).length
  | [], xs, ys, _, h => by
    simp only [mfold, Except.ok.injEq] at h
    subst h
    omega
  | r :: rs, xs, ys, hr, h => by
    rw [mfold] at h
    rw [List.flatMap_cons, List.length_append]
    have h1 := isrec_s (hr r (List.mem_cons_self ..))
    have hrs := fun z hz => hr z (List.mem_cons_of_mem _ hz)
    split at h
    · unfold lstep at h
      split at h
      · cases h
      · rename_i st' heq
        split at heq
        · cases heq
        · simp only [Except.ok.injEq] at heq
          subst heq
          have ih := lfold_len rs hrs h
          rw [List.length_append, List.length_singleton] at ih
          omega
    · have ih := lfold_len rs hrs h
      omega
/-- a list that is being read, with what its closure holds -/
def VLS (b bd bf : Nat) (d : Int) (F : Nat) (xs : List Val) (P : Nat → Prop) (w : World) : Prop := ∃ P0, VLAt b xs P0 w ∧ ¬ P0 bd ∧ ¬ P0 bf ∧ w.heap[bd]? = some (.cells #[.int .i64 d] 3 (0, 0)) ∧ w.heap[bf]? = some (.cells #[.func (.func F) #[] #[]] 179 (0, 0)) ∧ P = fun k => P0 k ∨ k = bd ∨ k = bf
theorem VLAt.lt {b : Nat} {xs : List Val} {P : Nat → Prop} {w : World} (h : VLAt b xs P w) : ∀ k, P k → k < w.heap.size := by
  obtain ⟨v, css, Q, h1, h2, h3, h4, h5, rfl⟩ := h
  rintro k (rfl | hk | hk)
  · exact row_lt h1
  · exact (h2.lt k hk).2
  · exact (h5 k hk).1
theorem VLAt.kept {b : Nat} {xs : List Val} {P : Nat → Prop} {w w' : World} (h : VLAt b xs P w) (hu : Upd (fun k => ¬ P k) w w') : VLAt b xs P w' := by
  obtain ⟨v, css, Q, h1, h2, h3, h4, h5, rfl⟩ := h
  exact ⟨v, css, Q, (hu.block b (row_lt h1) (fun h => h (.inl rfl))).trans h1, hu.own h2 (fun k hk h => h (.inr (.inl hk))), h3, fun j g1 g2 => VRel.upd hu (fun k hk h => h (.inr (.inr hk))) (fun k hk => hk) _ _ (h4 j g1 g2), fun k hk => ⟨Nat.lt_of_lt_of_le (h5 k hk).1 hu.size, (h5 k hk).2⟩, rfl⟩
def vlTaker (b bd bf : Nat) (d : Int) (F : Nat) : Taker (List Val) where
  rel := VLS b bd bf d F
  lt := by
    rintro xs P w ⟨P0, h1, _, _, h4, h5, rfl⟩ k (hk | rfl | rfl)
    · exact h1.lt k hk
    · exact row_lt h4
    · exact row_lt h5
  kept := by
    rintro xs P w w' ⟨P0, h1, h2, h3, h4, h5, rfl⟩ hu
    exact ⟨P0, h1.kept (hu.mono fun k _ h h' => h (.inl h')), h2, h3, (hu.block bd (row_lt h4) (fun h => h (.inr (.inl rfl)))).trans h4, (hu.block bf (row_lt h5) (fun h => h (.inr (.inr rfl)))).trans h5, rfl⟩
set_option maxRecDepth 1000000 in
set_option maxHeartbeats 8000000 in
theorem vltake_any (b bd bf : Nat) (d : Int) (F : Nat) (rd : List UInt8 → Int → Except Nat Val) (r : Rec) (xs : List Val) (P : Nat → Prop) (w : World) (hET : ∀ args w, (callFunc F args).run Tryz.prog w = .ok (.enter F args) w) (hd : -9223372036854775807 ≤ d ∧ d ≤ 9223372036854775807) (hl : xs.length ≤ 1000000)
    (hread : Hid (∀ (X : ByteArray) w', X.data.toList = r.s → Calls Tryz.prog F #[.string X, .int .i64 (d - 1)] w' (VPost (rd r.s (d - 1)) X.size w'))) (h : Hid (VLS b bd bf d F xs P w)) :
    Calls Tryz.prog 176 #[recV r, .pointer (some ⟨b, 0, none⟩), .pointer (some ⟨bd, 0, none⟩), .pointer (some ⟨bf, 0, none⟩)] w (TakePost (vlTaker b bd bf d F) (lstep rd (d - 1)) xs P r w) := by
  obtain ⟨P0, h1, h2, h3, h4, h5, rfl⟩ := h.out
  have H1 := Lib.hid h1
  have H2 := Lib.hid h2
  have H3 := Lib.hid h3
  have H4 := Lib.hid h4
  have H5 := Lib.hid h5
  clear h1 h2 h3 h4 h5
  obtain ⟨X, hX⟩ : ∃ X : ByteArray, (⟨r.s.toArray⟩ : ByteArray) = X := ⟨_, rfl⟩
  have hXD : X.data.toList = r.s := by rw [← hX]
  obtain ⟨rb, hrb⟩ : ∃ rb, w.heap.size = rb := ⟨_, rfl⟩
  obtain ⟨W0, hW0⟩ : ∃ W0, w.alloc (.cells #[.int .i64 (r.num : Int), .int .i64 (r.ty : Int), .int .u64 (r.n : Int), .string X, .string ⟨r.raw.toArray⟩] 66) = W0 := ⟨_, rfl⟩
  have HU0 : Hid (Upd (fun _ => False) w W0) := Lib.hid (by rw [← hW0]; exact Upd.alloc _ _ _)
  have hr3 : W0.cell? ⟨rb, 3, none⟩ = some (.string X) := by rw [← hW0, ← hrb]; exact row_cell (heap_alloc_new w _) (j := 3) rfl
  have hcd : W0.cell? ⟨bd, 0, none⟩ = some (.int .i64 d) := row_cell ((HU0.out.block bd (row_lt H4.out) (fun h => h)).trans H4.out) (j := 0) rfl
  have hcf : W0.cell? ⟨bf, 0, none⟩ = some (.func (.func F) #[] #[]) := row_cell ((HU0.out.block bf (row_lt H5.out) (fun h => h)).trans H5.out) (j := 0) rfl
  have q1 : IntKind.i64.wrap (d - 1) = d - 1 := IntWalk.i64_in _ (by omega)
  have HA := Lib.hid (vadd_any b xs P0 F X (d - 1) (rd r.s (d - 1)) W0 hET (Lib.hid (H1.out.kept (HU0.out.mono fun _ _ h => h.elim))) hl (Lib.hid (fun w' => hread.out X w' hXD)))
  have HW0 := Lib.hid hW0
  have HRB := Lib.hid hrb
  rw [← hW0] at hcd hcf
  clear hW0 hrb hET hXD hr3
  unfold recV
  rw [hX]
  clear hX
  go_enter Tryz.func176, Tryz.ntmps176
  go_wp2_with fail
  rw [HW0.out]
  refine HA.out.mono ?_; intro e w1 hpost
  obtain ⟨hu1, hcase⟩ := hpost
  have HU1 : Hid (Upd P0 w w1) := Lib.hid ((HU0.out.mono fun _ _ h => h.elim).trans hu1)
  have HS0 := Lib.hid HU0.out.size
  clear hu1 hcd hcf
  cases hrd : rd r.s (d - 1) with
  | error c =>
    rw [hrd] at hcase
    obtain ⟨y, rfl, hec⟩ := hcase
    obtain ⟨T', z, rfl⟩ := hec.iface
    have HEC := Lib.hid hec
    have HST : Hid (lstep rd (d - 1) xs r = .error c) := Lib.hid (by unfold lstep; rw [hrd])
    clear hec hrd
    go_wp2_with fail
    refine (in_any _ _ _ _).mono ?_; rintro e w' ⟨rfl, rfl⟩
    go_wp2_with fail
    go_ret
    refine ⟨(HU1.out.mono fun k _ h => .inl h).trans (Upd.alloc _ _ _), ?_⟩
    rw [HST.out]
    exact ⟨_, rfl, ec_field HEC.out⟩
  | ok x =>
    rw [hrd] at hcase
    obtain ⟨rfl, P', hat, hp⟩ := hcase
    have HAT := Lib.hid hat
    have HP := Lib.hid hp
    have HST : Hid (lstep rd (d - 1) xs r = .ok (xs ++ [x])) := Lib.hid (by unfold lstep; rw [hrd])
    clear hat hp hrd
    go_wp2_with fail
    refine (in_nil _ _).mono ?_; rintro e w' ⟨rfl, rfl⟩
    go_wp2_with fail
    go_ret
    refine ⟨HU1.out.mono fun k _ h => .inl h, ?_⟩
    rw [HST.out]
    have hn : ∀ k, k < w.heap.size → ¬ P0 k → ¬ P' k := fun k hk h0 h' => by
      rcases HP.out k h' with h | h
      · exact h0 h
      · have := HS0.out; omega
    refine ⟨rfl, _, ⟨P', HAT.out, hn bd (row_lt H4.out) H2.out, hn bf (row_lt H5.out) H3.out, (HU1.out.block bd (row_lt H4.out) H2.out).trans H4.out, (HU1.out.block bf (row_lt H5.out) H3.out).trans H5.out, rfl⟩, fun k hk => ?_⟩
    rcases hk with hk | hk
    · rcases HP.out k hk with h | h
      · exact .inl (.inl h)
      · exact .inr (Nat.le_trans HS0.out h)
    · exact .inl (.inr hk)
def VListPost (rd : Except Nat (List Val × List UInt8)) (w : World) (e : Ending) (w' : World) : Prop := Below w.heap.size w w' ∧ match rd with
  | .error c => ∃ y, e = .returned (.tuple #[.slice none 0 0, .string ⟨#[]⟩, y]) ∧ EC w' y c
  | .ok (xs, i) => ∃ lo lc, e = .returned (.tuple #[.slice lo xs.length lc, .string ⟨i.toArray⟩, .nilIface]) ∧ VRels w' (fun k => w.heap.size ≤ k) xs lo 0
set_option maxRecDepth 1000000 in
set_option maxHeartbeats 8000000 in
theorem vlist_any (F : Nat) (X : ByteArray) (d : Int) (rd : List UInt8 → Int → Except Nat Val) (w : World) (hX : X.size ≤ 1000000) (hET : ∀ args w, (callFunc F args).run Tryz.prog w = .ok (.enter F args) w) (hd : -9223372036854775807 ≤ d ∧ d ≤ 9223372036854775807)
    (hread : Hid (∀ (Y : ByteArray) w', Y.size < X.size → Calls Tryz.prog F #[.string Y, .int .i64 (d - 1)] w' (VPost (rd Y.data.toList (d - 1)) Y.size w'))) :
    Calls Tryz.prog 170 #[.string X, .int .i64 d, .func (.func F) #[] #[]] w (VListPost (lread rd X.data.toList d) w) := by
  have HK := Lib.hid (fun (b bd bf : Nat) (r : Rec) (st : List Val) (P : Nat → Prop) (w : World) (_ : itk r = true) (hr : IsRec d r) (hraw : r.raw.length ≤ X.size) (_ : ∀ rs, wall X.data.toList d = .ok rs → r ∈ rs) (hpre : ∃ pre : List Rec, (∀ x ∈ pre, IsRec d x) ∧ mfold itk (lstep rd (d - 1)) [] pre = .ok st ∧ (pre.flatMap Rec.raw).length + r.raw.length ≤ X.size) (h : (vlTaker b bd bf d F).rel st P w) => vltake_any b bd bf d F rd r st P w hET hd (by
    obtain ⟨pre, h1, h2, h3⟩ := hpre
    have := lfold_len pre h1 h2
    dsimp only [List.length_nil] at this
    omega) (Lib.hid (fun Y w' hY => by
      have hz : Y.size = r.s.length := by rw [← hY]; simp
      have := hread.out Y w' (by have := isrec_s hr; omega)
      rw [hY] at this
      exact this)) (Lib.hid h))
  have HE1 := Lib.hid (enters_of Tryz.func173 (by kernel_rfl) rfl)
  have HE2 := Lib.hid (enters_of Tryz.func176 (by kernel_rfl) rfl)
  obtain ⟨g, hg⟩ : ∃ g, w.heap.size = g := ⟨_, rfl⟩
  obtain ⟨W0, hW0⟩ : ∃ W0, ((w.alloc (.cells #[.int .i64 d] 3)).alloc (.cells #[.func (.func F) #[] #[]] 179)).alloc (.cells #[.slice none 0 0] 78) = W0 := ⟨_, rfl⟩
  have HB0 : Hid (Below w.heap.size w W0) := Lib.hid (by rw [← hW0]; exact below_step (below_step (below_new _ _) (below_new _ _)) (below_new _ _))
  have s1 : (w.alloc (.cells #[.int .i64 d] 3)).heap.size = g + 1 := by rw [← hg]; exact Array.size_push ..
  have s2 : ((w.alloc (.cells #[.int .i64 d] 3)).alloc (.cells #[.func (.func F) #[] #[]] 179)).heap.size = g + 2 := by rw [show g + 2 = g + 1 + 1 from rfl, ← s1]; exact Array.size_push ..
  have HRD : Hid (W0.heap[g]? = some (.cells #[.int .i64 d] 3 (0, 0))) := Lib.hid (by rw [← hW0, ← hg]; exact (Below.heap_alloc _ _ _ (by rw [s2]; omega)).trans ((Below.heap_alloc _ _ _ (by rw [s1]; omega)).trans (heap_alloc_new w _)))
  have HRF : Hid (W0.heap[g + 1]? = some (.cells #[.func (.func F) #[] #[]] 179 (0, 0))) := Lib.hid (by rw [← hW0, ← s1]; exact (Below.heap_alloc _ _ _ (by rw [s2, s1]; omega)).trans (heap_alloc_new _ _))
  have HRL : Hid (W0.heap[g + 2]? = some (.cells #[.slice none 0 0] 78 (0, 0))) := Lib.hid (by rw [← hW0, ← s2]; exact heap_alloc_new _ _)
  have HTK : Hid ((vlTaker (g + 2) g (g + 1) d F).rel [] (fun k => (k = g + 2 ∨ (Value.slice none 0 0).ownBlock = some k ∨ False) ∨ k = g ∨ k = g + 1) W0) := Lib.hid ⟨_, ⟨.slice none 0 0, [], fun _ => False, HRL.out, World.ownsRow_nil _ _ _ _, rfl, fun j h1 => by simp at h1, fun _ h => h.elim, rfl⟩, by simp [Value.ownBlock], by simp [Value.ownBlock], HRD.out, HRF.out, rfl⟩
  have hcd : W0.cell? ⟨g, 0, none⟩ = some (.int .i64 d) := row_cell HRD.out (j := 0) rfl
  have HW0 := Lib.hid hW0
  have HGG := Lib.hid hg
  clear hW0 s1 s2 hET
  go_enter Tryz.func170, Tryz.ntmps170
  go_wp2_with fail
  rw [HW0.out]
  go_wp2_with fail
  refine (mread_any (vlTaker (g + 2) g (g + 1) d F) itk (lstep rd (d - 1)) 173 176 #[.pointer (some ⟨g + 2, 0, none⟩), .pointer (some ⟨g, 0, none⟩), .pointer (some ⟨g + 1, 0, none⟩)] [] X d W0 hX HE1.out HE2.out (fun r w _ => itakes_any r w) (HK.out (g + 2) g (g + 1)) _ HTK.out).mono ?_; intro e w1 hpost
  obtain ⟨hu, hcase⟩ := hpost
  have HB1 : Hid (Below w.heap.size w w1) := Lib.hid (HB0.out.trans (hu.below (by have := HB0.out.size; omega) (fun k _ h => by
    have := HGG.out
    rcases h with (h | h | h) | h | h
    · omega
    · simp [Value.ownBlock] at h
    · exact h.elim
    · omega
    · omega)))
  clear hu hcd
  cases hb : mread itk (lstep rd (d - 1)) [] X.data.toList d with
  | error c =>
    rw [hb] at hcase
    obtain ⟨v, q, rfl, hq, hew⟩ := hcase
    obtain ⟨T', y, rfl⟩ := hew.iface
    have HBR : Hid (lread rd X.data.toList d = .error c) := Lib.hid hb
    have HEC := Lib.hid hew.ec
    clear hb hew
    go_wp2_with fail
    go_ret3
    refine ⟨HB1.out, ?_⟩
    rw [HBR.out]
    exact ⟨_, rfl, HEC.out⟩
  | ok xu =>
    obtain ⟨xs, i⟩ := xu
    rw [hb] at hcase
    obtain ⟨rfl, P', ⟨P0, hat, h2, h3, h4, h5, rfl⟩, hp⟩ := hcase
    have HBR : Hid (lread rd X.data.toList d = .ok (xs, i)) := Lib.hid hb
    obtain ⟨v, css, Q, g1, g2, g3, g4, g5, rfl⟩ := hat
    obtain ⟨lo, lc, rfl⟩ := own_slice g2
    have HR := Lib.hid (VRel_own g2 g3 (P := fun k => w.heap.size ≤ k) (fun j a1 a2 => VRel.upd (Upd.refl (fun _ => False) w1) (fun _ _ h => h) (fun k hk => by
      have := hp k (.inl (.inr (.inr hk)))
      have h0 := HGG.out
      have h9 := HB0.out.size
      rcases this with ((h | h | h) | h | h) | h
      · omega
      · simp [Value.ownBlock] at h
      · exact h.elim
      · omega
      · omega
      · omega) _ _ (g4 j a1 a2)) (fun k hk => by have := (g2.lt k hk).1; have := HGG.out; omega))
    have hcl : w1.cell? ⟨g + 2, 0, none⟩ = some (.slice lo xs.length lc) := row_cell g1 (j := 0) rfl
    clear hb g1 g2 g3 g4 g5 h2 h3 h4 h5 hp
    go_wp2_with fail
    go_ret3
    refine ⟨HB1.out, ?_⟩
    rw [HBR.out]
    exact ⟨lo, lc, rfl, HR.out⟩
/-- a list that is being read, with what its closure holds -/
def KLS (b bd bf : Nat) (d : Int) (F : Nat) (xs : List KV) (P : Nat → Prop) (w : World) : Prop := ∃ P0, KLAt b xs P0 w ∧ ¬ P0 bd ∧ ¬ P0 bf ∧ w.heap[bd]? = some (.cells #[.int .i64 d] 3 (0, 0)) ∧ w.heap[bf]? = some (.cells #[.func (.func F) #[] #[]] 128 (0, 0)) ∧ P = fun k => P0 k ∨ k = bd ∨ k = bf
theorem KLAt.lt {b : Nat} {xs : List KV} {P : Nat → Prop} {w : World} (h : KLAt b xs P w) : ∀ k, P k → k < w.heap.size := by
  obtain ⟨v, css, Q, h1, h2, h3, h4, h5, rfl⟩ := h
  rintro k (rfl | hk | hk)
  · exact row_lt h1
  · exact (h2.lt k hk).2
  · exact (h5 k hk).1
theorem KLAt.kept {b : Nat} {xs : List KV} {P : Nat → Prop} {w w' : World} (h : KLAt b xs P w) (hu : Upd (fun k => ¬ P k) w w') : KLAt b xs P w' := by
  obtain ⟨v, css, Q, h1, h2, h3, h4, h5, rfl⟩ := h
  exact ⟨v, css, Q, (hu.block b (row_lt h1) (fun h => h (.inl rfl))).trans h1, hu.own h2 (fun k hk h => h (.inr (.inl hk))), h3, fun j g1 g2 => KRel.upd hu (fun k hk h => h (.inr (.inr hk))) (fun k hk => hk) _ _ (h4 j g1 g2), fun k hk => ⟨Nat.lt_of_lt_of_le (h5 k hk).1 hu.size, (h5 k hk).2⟩, rfl⟩
def klTaker (b bd bf : Nat) (d : Int) (F : Nat) : Taker (List KV) where
  rel := KLS b bd bf d F
  lt := by
    rintro xs P w ⟨P0, h1, _, _, h4, h5, rfl⟩ k (hk | rfl | rfl)
    · exact h1.lt k hk
    · exact row_lt h4
    · exact row_lt h5
  kept := by
    rintro xs P w w' ⟨P0, h1, h2, h3, h4, h5, rfl⟩ hu
    exact ⟨P0, h1.kept (hu.mono fun k _ h h' => h (.inl h')), h2, h3, (hu.block bd (row_lt h4) (fun h => h (.inr (.inl rfl)))).trans h4, (hu.block bf (row_lt h5) (fun h => h (.inr (.inr rfl)))).trans h5, rfl⟩
set_option maxRecDepth 1000000 in
set_option maxHeartbeats 8000000 in
theorem kltake_any (b bd bf : Nat) (d : Int) (F : Nat) (rd : List UInt8 → Int → Except Nat KV) (r : Rec) (xs : List KV) (P : Nat → Prop) (w : World) (hET : ∀ args w, (callFunc F args).run Tryz.prog w = .ok (.enter F args) w) (hd : -9223372036854775807 ≤ d ∧ d ≤ 9223372036854775807) (hl : xs.length ≤ 1000000)
    (hread : Hid (∀ (X : ByteArray) w', X.data.toList = r.s → Calls Tryz.prog F #[.string X, .int .i64 (d - 1)] w' (KPost (rd r.s (d - 1)) X.size w'))) (h : Hid (KLS b bd bf d F xs P w)) :
    Calls Tryz.prog 178 #[recV r, .pointer (some ⟨b, 0, none⟩), .pointer (some ⟨bd, 0, none⟩), .pointer (some ⟨bf, 0, none⟩)] w (TakePost (klTaker b bd bf d F) (lstep rd (d - 1)) xs P r w) := by
  obtain ⟨P0, h1, h2, h3, h4, h5, rfl⟩ := h.out
  have H1 := Lib.hid h1
  have H2 := Lib.hid h2
  have H3 := Lib.hid h3
  have H4 := Lib.hid h4
  have H5 := Lib.hid h5
  clear h1 h2 h3 h4 h5
  obtain ⟨X, hX⟩ : ∃ X : ByteArray, (⟨r.s.toArray⟩ : ByteArray) = X := ⟨_, rfl⟩
  have hXD : X.data.toList = r.s := by rw [← hX]
  obtain ⟨rb, hrb⟩ : ∃ rb, w.heap.size = rb := ⟨_, rfl⟩
  obtain ⟨W0, hW0⟩ : ∃ W0, w.alloc (.cells #[.int .i64 (r.num : Int), .int .i64 (r.ty : Int), .int .u64 (r.n : Int), .string X, .string ⟨r.raw.toArray⟩] 66) = W0 := ⟨_, rfl⟩
  have HU0 : Hid (Upd (fun _ => False) w W0) := Lib.hid (by rw [← hW0]; exact Upd.alloc _ _ _)
  have hr3 : W0.cell? ⟨rb, 3, none⟩ = some (.string X) := by rw [← hW0, ← hrb]; exact row_cell (heap_alloc_new w _) (j := 3) rfl
  have hcd : W0.cell? ⟨bd, 0, none⟩ = some (.int .i64 d) := row_cell ((HU0.out.block bd (row_lt H4.out) (fun h => h)).trans H4.out) (j := 0) rfl
  have hcf : W0.cell? ⟨bf, 0, none⟩ = some (.func (.func F) #[] #[]) := row_cell ((HU0.out.block bf (row_lt H5.out) (fun h => h)).trans H5.out) (j := 0) rfl
  have q1 : IntKind.i64.wrap (d - 1) = d - 1 := IntWalk.i64_in _ (by omega)
  have HA := Lib.hid (kadd_any b xs P0 F X (d - 1) (rd r.s (d - 1)) W0 hET (Lib.hid (H1.out.kept (HU0.out.mono fun _ _ h => h.elim))) hl (Lib.hid (fun w' => hread.out X w' hXD)))
  have HW0 := Lib.hid hW0
  have HRB := Lib.hid hrb
  rw [← hW0] at hcd hcf
  clear hW0 hrb hET hXD hr3
  unfold recV
  rw [hX]
  clear hX
  go_enter Tryz.func178, Tryz.ntmps178
  go_wp2_with fail
  rw [HW0.out]
  refine HA.out.mono ?_; intro e w1 hpost
  obtain ⟨hu1, hcase⟩ := hpost
  have HU1 : Hid (Upd P0 w w1) := Lib.hid ((HU0.out.mono fun _ _ h => h.elim).trans hu1)
  have HS0 := Lib.hid HU0.out.size
  clear hu1 hcd hcf
  cases hrd : rd r.s (d - 1) with
  | error c =>
    rw [hrd] at hcase
    obtain ⟨y, rfl, hec⟩ := hcase
    obtain ⟨T', z, rfl⟩ := hec.iface
    have HEC := Lib.hid hec
    have HST : Hid (lstep rd (d - 1) xs r = .error c) := Lib.hid (by unfold lstep; rw [hrd])
    clear hec hrd
    go_wp2_with fail
    refine (in_any _ _ _ _).mono ?_; rintro e w' ⟨rfl, rfl⟩
    go_wp2_with fail
    go_ret
    refine ⟨(HU1.out.mono fun k _ h => .inl h).trans (Upd.alloc _ _ _), ?_⟩
    rw [HST.out]
    exact ⟨_, rfl, ec_field HEC.out⟩
  | ok x =>
    rw [hrd] at hcase
    obtain ⟨rfl, P', hat, hp⟩ := hcase
    have HAT := Lib.hid hat
    have HP := Lib.hid hp
    have HST : Hid (lstep rd (d - 1) xs r = .ok (xs ++ [x])) := Lib.hid (by unfold lstep; rw [hrd])
    clear hat hp hrd
    go_wp2_with fail
    refine (in_nil _ _).mono ?_; rintro e w' ⟨rfl, rfl⟩
    go_wp2_with fail
    go_ret
    refine ⟨HU1.out.mono fun k _ h => .inl h, ?_⟩
    rw [HST.out]
    have hn : ∀ k, k < w.heap.size → ¬ P0 k → ¬ P' k := fun k hk h0 h' => by
      rcases HP.out k h' with h | h
      · exact h0 h
      · have := HS0.out; omega
    refine ⟨rfl, _, ⟨P', HAT.out, hn bd (row_lt H4.out) H2.out, hn bf (row_lt H5.out) H3.out, (HU1.out.block bd (row_lt H4.out) H2.out).trans H4.out, (HU1.out.block bf (row_lt H5.out) H3.out).trans H5.out, rfl⟩, fun k hk => ?_⟩
    rcases hk with hk | hk
    · rcases HP.out k hk with h | h
      · exact .inl (.inl h)
      · exact .inr (Nat.le_trans HS0.out h)
    · exact .inl (.inr hk)
def KListPost (rd : Except Nat (List KV × List UInt8)) (w : World) (e : Ending) (w' : World) : Prop := Below w.heap.size w w' ∧ match rd with
  | .error c => ∃ y, e = .returned (.tuple #[.slice none 0 0, .string ⟨#[]⟩, y]) ∧ EC w' y c
  | .ok (xs, i) => ∃ lo lc, e = .returned (.tuple #[.slice lo xs.length lc, .string ⟨i.toArray⟩, .nilIface]) ∧ KRels w' (fun k => w.heap.size ≤ k) xs lo 0
set_option maxRecDepth 1000000 in
set_option maxHeartbeats 8000000 in
theorem klist_any (F : Nat) (X : ByteArray) (d : Int) (rd : List UInt8 → Int → Except Nat KV) (w : World) (hX : X.size ≤ 1000000) (hET : ∀ args w, (callFunc F args).run Tryz.prog w = .ok (.enter F args) w) (hd : -9223372036854775807 ≤ d ∧ d ≤ 9223372036854775807)
    (hread : Hid (∀ (Y : ByteArray) w', Y.size < X.size → Calls Tryz.prog F #[.string Y, .int .i64 (d - 1)] w' (KPost (rd Y.data.toList (d - 1)) Y.size w'))) :
    Calls Tryz.prog 171 #[.string X, .int .i64 d, .func (.func F) #[] #[]] w (KListPost (lread rd X.data.toList d) w) := by
  have HK := Lib.hid (fun (b bd bf : Nat) (r : Rec) (st : List KV) (P : Nat → Prop) (w : World) (_ : itk r = true) (hr : IsRec d r) (hraw : r.raw.length ≤ X.size) (_ : ∀ rs, wall X.data.toList d = .ok rs → r ∈ rs) (hpre : ∃ pre : List Rec, (∀ x ∈ pre, IsRec d x) ∧ mfold itk (lstep rd (d - 1)) [] pre = .ok st ∧ (pre.flatMap Rec.raw).length + r.raw.length ≤ X.size) (h : (klTaker b bd bf d F).rel st P w) => kltake_any b bd bf d F rd r st P w hET hd (by
    obtain ⟨pre, h1, h2, h3⟩ := hpre
    have := lfold_len pre h1 h2
    dsimp only [List.length_nil] at this
    omega) (Lib.hid (fun Y w' hY => by
      have hz : Y.size = r.s.length := by rw [← hY]; simp
      have := hread.out Y w' (by have := isrec_s hr; omega)
      rw [hY] at this
      exact this)) (Lib.hid h))
  have HE1 := Lib.hid (enters_of Tryz.func173 (by kernel_rfl) rfl)
  have HE2 := Lib.hid (enters_of Tryz.func178 (by kernel_rfl) rfl)
  obtain ⟨g, hg⟩ : ∃ g, w.heap.size = g := ⟨_, rfl⟩
  obtain ⟨W0, hW0⟩ : ∃ W0, ((w.alloc (.cells #[.int .i64 d] 3)).alloc (.cells #[.func (.func F) #[] #[]] 128)).alloc (.cells #[.slice none 0 0] 23) = W0 := ⟨_, rfl⟩
  have HB0 : Hid (Below w.heap.size w W0) := Lib.hid (by rw [← hW0]; exact below_step (below_step (below_new _ _) (below_new _ _)) (below_new _ _))
  have s1 : (w.alloc (.cells #[.int .i64 d] 3)).heap.size = g + 1 := by rw [← hg]; exact Array.size_push ..
  have s2 : ((w.alloc (.cells #[.int .i64 d] 3)).alloc (.cells #[.func (.func F) #[] #[]] 128)).heap.size = g + 2 := by rw [show g + 2 = g + 1 + 1 from rfl, ← s1]; exact Array.size_push ..
  have HRD : Hid (W0.heap[g]? = some (.cells #[.int .i64 d] 3 (0, 0))) := Lib.hid (by rw [← hW0, ← hg]; exact (Below.heap_alloc _ _ _ (by rw [s2]; omega)).trans ((Below.heap_alloc _ _ _ (by rw [s1]; omega)).trans (heap_alloc_new w _)))
  have HRF : Hid (W0.heap[g + 1]? = some (.cells #[.func (.func F) #[] #[]] 128 (0, 0))) := Lib.hid (by rw [← hW0, ← s1]; exact (Below.heap_alloc _ _ _ (by rw [s2, s1]; omega)).trans (heap_alloc_new _ _))
  have HRL : Hid (W0.heap[g + 2]? = some (.cells #[.slice none 0 0] 23 (0, 0))) := Lib.hid (by rw [← hW0, ← s2]; exact heap_alloc_new _ _)
  have HTK : Hid ((klTaker (g + 2) g (g + 1) d F).rel [] (fun k => (k = g + 2 ∨ (Value.slice none 0 0).ownBlock = some k ∨ False) ∨ k = g ∨ k = g + 1) W0) := Lib.hid ⟨_, ⟨.slice none 0 0, [], fun _ => False, HRL.out, World.ownsRow_nil _ _ _ _, rfl, fun j h1 => by simp at h1, fun _ h => h.elim, rfl⟩, by simp [Value.ownBlock], by simp [Value.ownBlock], HRD.out, HRF.out, rfl⟩
  have hcd : W0.cell? ⟨g, 0, none⟩ = some (.int .i64 d) := row_cell HRD.out (j := 0) rfl
  have HW0 := Lib.hid hW0
  have HGG := Lib.hid hg
  clear hW0 s1 s2 hET
  go_enter Tryz.func171, Tryz.ntmps171
  go_wp2_with fail
  rw [HW0.out]
  go_wp2_with fail
  refine (mread_any (klTaker (g + 2) g (g + 1) d F) itk (lstep rd (d - 1)) 173 178 #[.pointer (some ⟨g + 2, 0, none⟩), .pointer (some ⟨g, 0, none⟩), .pointer (some ⟨g + 1, 0, none⟩)] [] X d W0 hX HE1.out HE2.out (fun r w _ => itakes_any r w) (HK.out (g + 2) g (g + 1)) _ HTK.out).mono ?_; intro e w1 hpost
  obtain ⟨hu, hcase⟩ := hpost
  have HB1 : Hid (Below w.heap.size w w1) := Lib.hid (HB0.out.trans (hu.below (by have := HB0.out.size; omega) (fun k _ h => by
    have := HGG.out
    rcases h with (h | h | h) | h | h
    · omega
    · simp [Value.ownBlock] at h
    · exact h.elim
    · omega
    · omega)))
  clear hu hcd
  cases hb : mread itk (lstep rd (d - 1)) [] X.data.toList d with
  | error c =>
    rw [hb] at hcase
    obtain ⟨v, q, rfl, hq, hew⟩ := hcase
    obtain ⟨T', y, rfl⟩ := hew.iface
    have HBR : Hid (lread rd X.data.toList d = .error c) := Lib.hid hb
    have HEC := Lib.hid hew.ec
    clear hb hew
    go_wp2_with fail
    go_ret3
    refine ⟨HB1.out, ?_⟩
    rw [HBR.out]
    exact ⟨_, rfl, HEC.out⟩
  | ok xu =>
    obtain ⟨xs, i⟩ := xu
    rw [hb] at hcase
    obtain ⟨rfl, P', ⟨P0, hat, h2, h3, h4, h5, rfl⟩, hp⟩ := hcase
    have HBR : Hid (lread rd X.data.toList d = .ok (xs, i)) := Lib.hid hb
    obtain ⟨v, css, Q, g1, g2, g3, g4, g5, rfl⟩ := hat
    obtain ⟨lo, lc, rfl⟩ := own_slice g2
    have HR := Lib.hid (KRel_own g2 g3 (P := fun k => w.heap.size ≤ k) (fun j a1 a2 => KRel.upd (Upd.refl (fun _ => False) w1) (fun _ _ h => h) (fun k hk => by
      have := hp k (.inl (.inr (.inr hk)))
      have h0 := HGG.out
      have h9 := HB0.out.size
      rcases this with ((h | h | h) | h | h) | h
      · omega
      · simp [Value.ownBlock] at h
      · exact h.elim
      · omega
      · omega
      · omega) _ _ (g4 j a1 a2)) (fun k hk => by have := (g2.lt k hk).1; have := HGG.out; omega))
    have hcl : w1.cell? ⟨g + 2, 0, none⟩ = some (.slice lo xs.length lc) := row_cell g1 (j := 0) rfl
    clear hb g1 g2 g3 g4 g5 h2 h3 h4 h5 hp
    go_wp2_with fail
    go_ret3
    refine ⟨HB1.out, ?_⟩
    rw [HBR.out]
    exact ⟨lo, lc, rfl, HR.out⟩
end Go.Proofs.YtandoppfbilhbaaGreatDoor
