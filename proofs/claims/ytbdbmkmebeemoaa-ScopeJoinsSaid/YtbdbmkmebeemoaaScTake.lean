/-
  Takers of messages with a list: a resource's, a scope's.
-/
import Derived.Test.YtbdbmkmebeemoaaScMath
import Derived.Test.YtbdbmkmebeemoaaAdd
import Derived.Test.YtbdbmkmebeemoaaValKey
import Derived.Test.YtbdbmkmebeemoaaIn
import Derived.Test.YtbdbmkmebeemoaaFx
namespace Go.Proofs.Ytbdbmkmebeemoaa
open Go.RowKit

/-- a taker, with the depth that its closure holds at bd -/
def capT {σ : Type} (R : Taker σ) (bd : Nat) (D : Int) : Taker σ where
  rel st P w := ∃ P0, R.rel st P0 w ∧ ¬ P0 bd ∧ w.heap[bd]? = some (.cells #[.int .i64 D] 3 (0, 0)) ∧ P = fun k => P0 k ∨ k = bd
  lt := by
    rintro st P w ⟨P0, h1, _, h2, rfl⟩ k (hk | rfl)
    · exact R.lt _ _ _ h1 k hk
    · exact row_lt h2
  kept := by
    rintro st P w w' ⟨P0, h1, h0, h2, rfl⟩ hu
    exact ⟨P0, R.kept _ _ _ _ h1 (hu.mono fun k _ h h' => h (.inl h')), h0, (hu.block bd (row_lt h2) (fun h => h (.inr rfl))).trans h2, rfl⟩
/-- a message at block bx, with one list -/
def rowT {σ α : Type} (C : Cel α) (T T0 : TypeId) (row : σ → Value → Array Value) (ls : σ → List α) (bx : Nat) : Taker σ where
  rel st P w := ∃ v P1, w.heap[bx]? = some (.cells (row st v) T0 (0, 0)) ∧ LsAt C T (bx + 1) v (ls st) P1 w ∧ P = fun k => k = bx ∨ P1 k
  lt := by
    rintro st P w ⟨v, P1, h1, h2, rfl⟩ k (rfl | hk)
    · exact row_lt h1
    · exact (h2.lt k hk).2
  kept := by
    rintro st P w w' ⟨v, P1, h1, h2, rfl⟩ hu
    exact ⟨v, P1, (hu.block bx (row_lt h1) (fun h => h (.inl rfl))).trans h1, h2.kept (hu.mono fun k _ h h' => h (.inr h')), rfl⟩
/-- one cell of it written -/
theorem rowT_set {σ α : Type} {C : Cel α} {T T0 : TypeId} {row : σ → Value → Array Value} {ls : σ → List α} {bx : Nat} {st st' : σ} {v : Value} {P1 : Nat → Prop} {w : World} (o : Nat) (u : Value) (h1 : w.heap[bx]? = some (.cells (row st v) T0 (0, 0))) (h2 : LsAt C T (bx + 1) v (ls st) P1 w) (hr : (row st v).setIfInBounds o u = row st' v) (hl : ls st' = ls st) :
    (rowT C T T0 row ls bx).rel st' (fun k => k = bx ∨ P1 k) (w.setCell ⟨bx, o, none⟩ u) ∧ Upd (fun k => k = bx) w (w.setCell ⟨bx, o, none⟩ u) := by
  have hu := Upd.set w ⟨bx, o, none⟩ u
  refine ⟨⟨v, P1, hr ▸ row_set h1 o u, ?_, rfl⟩, hu⟩
  rw [hl]
  exact h2.kept (hu.mono fun k _ h h' => by have h : k = bx := h; have := (h2.lt k h').1; omega)
/-- one more of its list -/
theorem rowT_add {σ α : Type} {C : Cel α} {T T0 : TypeId} {row : σ → Value → Array Value} {ls : σ → List α} {bx o : Nat} {st st' : σ} {v : Value} {x : α} {P1 : Nat → Prop} {w : World} {e : Ending} {w' : World} (h : AddPost C T T0 bx o (bx + 1) (row st v) (ls st) P1 (.ok x) w e w') (hr : ∀ v', (row st v).setIfInBounds o v' = row st' v') (hl : ls st' = ls st ++ [x]) :
    e = .returned .nilIface ∧ Upd (fun k => k = bx ∨ P1 k) w w' ∧ ∃ P', (rowT C T T0 row ls bx).rel st' P' w' ∧ ∀ k, P' k → (k = bx ∨ P1 k) ∨ w.heap.size ≤ k := by
  obtain ⟨hu, he, v', P', h1, h2, h3⟩ := h
  refine ⟨he, hu, _, ⟨v', P', hr v' ▸ h1, hl ▸ h2, rfl⟩, ?_⟩
  rintro k (rfl | hk)
  · exact .inl (.inl rfl)
  · exact (h3 k hk).imp .inr id
theorem takepost_no {σ : Type} {R : Taker σ} {step : σ → Rec → Except Nat σ} {st : σ} {P : Nat → Prop} {r : Rec} {w w' : World} {v : Value} {c : Nat} (hs : step st r = .error c) (hu : Upd P w w') (he : EC w' v c) : TakePost R step st P r w (.returned v) w' := ⟨hu, by rw [hs]; exact ⟨v, rfl, he⟩⟩
theorem takepost_ok {σ : Type} {R : Taker σ} {step : σ → Rec → Except Nat σ} {st st' : σ} {P P' : Nat → Prop} {r : Rec} {w w' : World} (hs : step st r = .ok st') (hu : Upd P w w') (hr : R.rel st' P' w') (hp : ∀ k, P' k → P k ∨ w.heap.size ≤ k) : TakePost R step st P r w (.returned .nilIface) w' := ⟨hu, by rw [hs]; exact ⟨rfl, P', hr, hp⟩⟩
/-- from a taker to the one whose closure holds the depth -/
theorem capT_post {σ : Type} {R : Taker σ} {bd : Nat} {D : Int} {step : σ → Rec → Except Nat σ} {st : σ} {P0 : Nat → Prop} {r : Rec} {w : World} {e : Ending} {w' : World} (h : TakePost R step st P0 r w e w') (h0 : ¬ P0 bd) (h2 : w.heap[bd]? = some (.cells #[.int .i64 D] 3 (0, 0))) : TakePost (capT R bd D) step st (fun k => P0 k ∨ k = bd) r w e w' := by
  obtain ⟨hu, hc⟩ := h
  refine ⟨hu.mono fun k _ h => .inl h, ?_⟩
  cases hs : step st r with
  | error c => rw [hs] at hc; exact hc
  | ok st' =>
    rw [hs] at hc
    obtain ⟨he, P', h3, h4⟩ := hc
    have hb := row_lt h2
    refine ⟨he, _, ⟨P', h3, fun h => ?_, (hu.block bd hb h0).trans h2, rfl⟩, ?_⟩
    · rcases h4 bd h with h | h
      · exact h0 h
      · omega
    · rintro k (hk | rfl)
      · exact (h4 k hk).imp .inl id
      · exact .inl (.inr rfl)
def rsRow (st : List KV × Nat) (v : Value) : Array Value := #[v, .int .u32 (st.2 : Int), .string ⟨#[]⟩]
def rsT (bx : Nat) : Taker (List KV × Nat) := rowT kcel 63 40 rsRow Prod.fst bx
/-- reading attributes, any text -/
def UKey : Prop := ∀ (Y : ByteArray) (d' : Int) (w' : World), Y.size ≤ 1000000 → -9223372036854775808 ≤ d' ∧ d' ≤ 9223372036854775807 → Calls Try.prog 47 #[.string Y, .int .i64 d'] w' (RdPost kcel kzero (kread 1000001 Y.data.toList d') Y.size w')
theorem ukey_any : UKey := fun Y d' w' hY hd => ((both_any 1000001 Y d' w' (by omega) hY hd).2).mono fun _ _ h => kpost_rd h
theorem u32_wrap (n : Nat) : IntKind.u32.wrap (n : Int) = ((n % 4294967296 : Nat) : Int) := by
  show ((n : Int) % 4294967296) = _
  omega
set_option maxRecDepth 1000000 in
set_option maxHeartbeats 8000000 in
theorem rsclo_any (hU : Hid UKey) (bx bd : Nat) (D : Int) (r : Rec) (st : List KV × Nat) (P : Nat → Prop) (w : World) (hD : -9223372036854775807 ≤ D ∧ D ≤ 9223372036854775807) (hk : rsF.tk r = true) (hs : r.s.length ≤ 1000000) (hl : st.1.length ≤ 1000000) (h : Hid ((capT (rsT bx) bd D).rel st P w)) :
    Calls Try.prog 45 #[recV r, .pointer (some ⟨bx, 0, none⟩), .pointer (some ⟨bd, 0, none⟩)] w (TakePost (capT (rsT bx) bd D) (rsF.step D) st P r w) := by
  obtain ⟨P0, hr, hn, hb, rfl⟩ := h.out
  refine Calls.mono ?_ (fun e w' hp => capT_post hp hn hb)
  obtain ⟨v, P1, h1, h2, rfl⟩ := hr
  obtain ⟨xs, n⟩ := st
  have H1 := Lib.hid h1
  have H2 := Lib.hid h2
  have HB := Lib.hid hb
  clear h h1 h2 hb
  obtain ⟨X, hX⟩ : ∃ X : ByteArray, (⟨r.s.toArray⟩ : ByteArray) = X := ⟨_, rfl⟩
  have hXs : X.size ≤ 1000000 := by rw [← hX]; simp [ByteArray.size]; omega
  have HXD : Hid (X.data.toList = r.s) := Lib.hid (by rw [← hX])
  obtain ⟨W0, hW0⟩ : ∃ W0, w.alloc (.cells #[.int .i64 (r.num : Int), .int .i64 (r.ty : Int), .int .u64 (r.n : Int), .string X, .string ⟨r.raw.toArray⟩] 71) = W0 := ⟨_, rfl⟩
  have HU0 : Hid (Upd (fun _ => False) w W0) := Lib.hid (by rw [← hW0]; exact Upd.alloc _ _ _)
  have H10 : Hid (W0.heap[bx]? = some (.cells (rsRow (xs, n) v) 40 (0, 0))) := Lib.hid ((HU0.out.block bx (row_lt H1.out) (fun h => h)).trans H1.out)
  have H20 : Hid (LsAt kcel 63 (bx + 1) v xs P1 W0) := Lib.hid (H2.out.kept (HU0.out.mono fun _ _ h => h.elim))
  have HW0 := Lib.hid hW0
  have hsz := HU0.out.size
  have hbx := row_lt H1.out
  have hcd : W0.cell? ⟨bd, 0, none⟩ = some (.int .i64 D) := row_cell ((HU0.out.block bd (row_lt HB.out) (fun h => h)).trans HB.out) (j := 0) rfl
  rw [rsF_tk, decide_eq_true_eq] at hk
  unfold recV
  rw [hX]
  clear hX
  by_cases h2 : r.num = 2
  · have HS : Hid (rsF.step D (xs, n) r = .ok (xs, r.n % 4294967296)) := Lib.hid (rsF_2 (by omega) D xs n)
    have d1 : ((r.num : Int) == 2) = true := by rw [beq_iff_eq]; omega
    have q1 := u32_wrap r.n
    have hc1 : W0.cell? ⟨bx, 1, none⟩ = some (.int .u32 (n : Int)) := row_cell H10.out (j := 1) rfl
    have hf1 : W0.frozen? ⟨bx, 1, none⟩ = false := row_thaw H10.out 1
    have hp := rowT_set (C := kcel) (T := 63) (row := rsRow) (ls := Prod.fst) (st := (xs, n)) (st' := (xs, r.n % 4294967296)) 1 (.int .u32 ((r.n : Int) % 4294967296)) H1.out H2.out (by unfold rsRow; rw [show ((r.n : Int) % 4294967296) = ((r.n % 4294967296 : Nat) : Int) by omega]; rfl) rfl
    have HP := Lib.hid hp
    rw [← hW0] at hc1 hf1
    clear hk h2 hp hcd hW0
    go_enter Try.func45, Try.ntmps45
    go_wp2_with fail
    go_ret
    exact takepost_ok HS.out ((HP.out.2.mono fun k _ h => .inl h).trans (Upd.alloc _ _ _)) ((rsT bx).kept _ _ _ _ HP.out.1 (Upd.alloc _ _ _)) (fun k hk => .inl hk)
  · have h1 : r.num = 1 ∧ r.ty = 2 := by omega
    have HSE := Lib.hid (rsF_1 h1 D xs n)
    have d1 : ((r.num : Int) == 2) = false := by rw [beq_eq_false_iff_ne]; omega
    have q1 : IntKind.i64.wrap (D - 1) = D - 1 := IntWalk.i64_in _ (by omega)
    have HA := Lib.hid (addk_any bx 0 (bx + 1) (rsRow (xs, n) v) 40 v xs P1 47 X (D - 1) (kread 1000001 r.s (D - 1)) W0 (enters_of Try.func47 (by kernel_rfl) rfl) H10 rfl ⟨by omega, by omega⟩ H20 hl (Lib.hid (fun w' => by have := hU.out X (D - 1) w' hXs (by omega); rwa [HXD.out] at this)))
    rw [← hW0] at hcd
    clear hk h2 h1 hW0
    go_enter Try.func45, Try.ntmps45
    go_wp2_with fail
    rw [HW0.out]
    refine HA.out.mono ?_; intro e w1 hpost
    cases hrd : kread 1000001 r.s (D - 1) with
    | error c =>
      rw [hrd] at hpost HSE
      obtain ⟨hu1, y, rfl, hec⟩ := hpost
      obtain ⟨T', z, rfl⟩ := hec.iface
      have HEC := Lib.hid hec
      have HU1 := Lib.hid hu1
      clear hec hu1 hrd hcd
      go_wp2_with fail
      refine (in_any _ _ _ _).mono ?_; rintro e w' ⟨rfl, rfl⟩
      go_wp2_with fail
      go_ret
      exact takepost_no HSE.out (((HU0.out.mono fun _ _ h => h.elim).trans HU1.out).trans (Upd.alloc _ _ _)) (ec_field HEC.out)
    | ok x =>
      rw [hrd] at hpost HSE
      obtain ⟨rfl, hu, P', hr, hp⟩ := rowT_add (row := rsRow) (ls := Prod.fst) (st := (xs, n)) (st' := (xs ++ [x], n)) hpost (fun v' => rfl) rfl
      have HU1 := Lib.hid hu
      have HR := Lib.hid hr
      have HP := Lib.hid hp
      clear hu hr hp hpost hrd hcd
      go_wp2_with fail
      refine (in_nil _ _).mono ?_; rintro e w' ⟨rfl, rfl⟩
      go_wp2_with fail
      go_ret
      exact takepost_ok HSE.out ((HU0.out.mono fun _ _ h => h.elim).trans HU1.out) HR.out (fun k hk => (HP.out k hk).imp id (fun h => Nat.le_trans hsz h))
def scRow (st : List UInt8 × List UInt8 × List KV × Nat) (v : Value) : Array Value := #[strV st.1, strV st.2.1, v, .int .u32 (st.2.2.2 : Int), .string ⟨#[]⟩]
def scT (bx : Nat) : Taker (List UInt8 × List UInt8 × List KV × Nat) := rowT kcel 63 25 scRow (fun st => st.2.2.1) bx
set_option maxRecDepth 1000000 in
set_option maxHeartbeats 8000000 in
theorem sctake_any (hU : Hid UKey) (bx : Nat) (D : Int) (r : Rec) (st : List UInt8 × List UInt8 × List KV × Nat) (P : Nat → Prop) (w : World) (hD : -9223372036854775807 ≤ D ∧ D ≤ 9223372036854775807) (hk : scF.tk r = true) (hs : r.s.length ≤ 1000000) (hl : st.2.2.1.length ≤ 1000000) (h : Hid ((scT bx).rel st P w)) :
    Calls Try.prog 43 #[.pointer (some ⟨bx, 0, none⟩), recV r, .int .i64 (D - 1)] w (TakePost (scT bx) (scF.step D) st P r w) := by
  obtain ⟨v, P1, h1, h2, rfl⟩ := h.out
  obtain ⟨a, b, xs, n⟩ := st
  have H1 := Lib.hid h1
  have H2 := Lib.hid h2
  clear h h1 h2
  obtain ⟨X, hX⟩ : ∃ X : ByteArray, (⟨r.s.toArray⟩ : ByteArray) = X := ⟨_, rfl⟩
  have hXs : X.size ≤ 1000000 := by rw [← hX]; simp [ByteArray.size]; omega
  have HXD : Hid (X.data.toList = r.s) := Lib.hid (by rw [← hX])
  have HX : Hid ((⟨r.s.toArray⟩ : ByteArray) = X) := Lib.hid hX
  obtain ⟨rb, hrb⟩ : ∃ rb, w.heap.size = rb := ⟨_, rfl⟩
  obtain ⟨W0, hW0⟩ : ∃ W0, w.alloc (.cells #[.int .i64 (r.num : Int), .int .i64 (r.ty : Int), .int .u64 (r.n : Int), .string X, .string ⟨r.raw.toArray⟩] 71) = W0 := ⟨_, rfl⟩
  have HU0 : Hid (Upd (fun _ => False) w W0) := Lib.hid (by rw [← hW0]; exact Upd.alloc _ _ _)
  have HR0 : Hid (W0.heap[rb]? = some (.cells #[.int .i64 (r.num : Int), .int .i64 (r.ty : Int), .int .u64 (r.n : Int), .string X, .string ⟨r.raw.toArray⟩] 71 (0, 0))) := Lib.hid (by rw [← hW0, ← hrb]; exact heap_alloc_new _ _)
  have H10 : Hid (W0.heap[bx]? = some (.cells (scRow (a, b, xs, n) v) 25 (0, 0))) := Lib.hid ((HU0.out.block bx (row_lt H1.out) (fun h => h)).trans H1.out)
  have H20 : Hid (LsAt kcel 63 (bx + 1) v xs P1 W0) := Lib.hid (H2.out.kept (HU0.out.mono fun _ _ h => h.elim))
  have HW0 := Lib.hid hW0
  have HRB := Lib.hid hrb
  have hsz := HU0.out.size
  have hbx := row_lt H1.out
  have hn0 : W0.cell? ⟨rb, 0, none⟩ = some (.int .i64 (r.num : Int)) := row_cell HR0.out (j := 0) rfl
  rw [scF_tk, decide_eq_true_eq] at hk
  have HKN := Lib.hid hk
  unfold recV
  rw [hX]
  rw [← hW0, ← hrb] at hn0
  clear hX hW0
  by_cases h1 : r.num = 1
  · have hty : r.num = 1 ∧ r.ty = 2 := by omega
    have HSE := Lib.hid (scF_1 hty D a b xs n)
    have d1 : ((r.num : Int) == 1) = true := by rw [beq_iff_eq]; omega
    clear hty hk HKN h1
    go_enter Try.func43, Try.ntmps43
    go_wp2_with fail
    rw [HW0.out]
    go_upto_region 3 with fail
    all_goals
      obtain ⟨D0, hD0⟩ : ∃ D0, W0.drew = D0 := ⟨_, rfl⟩
      have hB0 : Below W0.heap.size W0 D0 := by rw [← hD0]; exact (Below.refl _ _).drew
      have hS : (fun w' : World => w'.heap[rb]? = some (.cells #[.int .i64 (r.num : Int), .int .i64 (r.ty : Int), .int .u64 (r.n : Int), .string X, .string ⟨r.raw.toArray⟩] 71 (0, 0))) D0 := (hB0.block _ (row_lt HR0.out)).trans HR0.out
      have hne : Nonempty {w' : World // (fun w' : World => w'.heap[rb]? = some (.cells #[.int .i64 (r.num : Int), .int .i64 (r.ty : Int), .int .u64 (r.n : Int), .string X, .string ⟨r.raw.toArray⟩] 71 (0, 0))) w'} := ⟨⟨_, hS⟩⟩
      refine wp_region_seq (S := fun w' : World => w'.heap[rb]? = some (.cells #[.int .i64 (r.num : Int), .int .i64 (r.ty : Int), .int .u64 (r.n : Int), .string X, .string ⟨r.raw.toArray⟩] 71 (0, 0))) [(0, true), (1, true), (2, true), (3, true), (4, true), (5, false), (6, true)] (by kernel_rfl) (by kernel_rfl) (by kernel_rfl) (by kernel_rfl) (by rw [hD0]; exact hS) ?_
      rw [hD0]
      iterate 4 (refine seq_take _ rfl (fun KC hK => ?_); go_simp; (first | refine hK _ ?_ | refine ⟨_, fun _ _ => rfl, hK _ ?_⟩); clear hK KC)
      refine seq_take _ rfl (fun KC hK => ?_); go_simp
      refine ⟨.string X, fun a ha => by rw [row_cell ha (j := 3) rfl]; rfl, hK _ ?_⟩
      clear hK KC
      have HT := Lib.hid (text_to (cs := scRow (a, b, xs, n) v) (T := 25) bx 0 _ X D0 hXs (Lib.hid ((hB0.block _ (row_lt H10.out)).trans H10.out)) rfl)
      refine seq_come _ rfl (fun KC hK => ?_); go_simp
      refine HT.out.mono ?_; intro e w1 hp
      unfold TextPost at hp
      rw [HXD.out] at hp
      cases hv : uvalid r.s with
      | true =>
        rw [if_pos hv] at hp
        obtain ⟨rfl, rfl⟩ := hp
        have hset := rowT_set (C := kcel) (T := 63) (row := scRow) (ls := fun st => st.2.2.1) (st := (a, b, xs, n)) (st' := (r.s, b, xs, n)) 0 (.string X) ((hB0.block _ (row_lt H10.out)).trans H10.out) (H20.out.kept ((Upd.of_new (S := fun _ => False) hB0).mono fun _ _ h => h.elim)) (by rw [← HX.out]; rfl) rfl
        have hS1 : (fun w' : World => w'.heap[rb]? = some (.cells #[.int .i64 (r.num : Int), .int .i64 (r.ty : Int), .int .u64 (r.n : Int), .string X, .string ⟨r.raw.toArray⟩] 71 (0, 0))) (D0.setCell ⟨bx, 0, none⟩ (.string X)) := (hset.2.block rb (row_lt hS) (fun e => by have e : rb = bx := e; omega)).trans hS
        have HSET := Lib.hid hset
        go_simp
        refine hK.out _ _ hS1 ?_; clear hK KC hset
        (refine seq_take _ rfl (fun KC hK => ?_); go_simp; (first | refine hK _ ?_ | refine ⟨_, fun _ _ => rfl, hK _ ?_⟩); clear hK KC)
        refine seq_done ?_
        go_wp2_with fail
        go_ret
        exact takepost_ok (HSE.out.trans (if_pos hv)) (((HU0.out.mono fun _ _ h => h.elim).trans (Upd.of_new hB0)).trans (HSET.out.2.mono fun k _ h => .inl h)) HSET.out.1 (fun k hk => .inl hk)
      | false =>
        rw [if_neg (by rw [hv]; simp)] at hp
        obtain ⟨y, rfl, hec, hb⟩ := hp
        obtain ⟨T', z, rfl⟩ := hec.iface
        have hS1 : (fun w' : World => w'.heap[rb]? = some (.cells #[.int .i64 (r.num : Int), .int .i64 (r.ty : Int), .int .u64 (r.n : Int), .string X, .string ⟨r.raw.toArray⟩] 71 (0, 0))) w1 := (hb.block _ (row_lt hS)).trans hS
        go_simp
        refine hK.out _ _ hS1 ?_; clear hK KC
        (refine seq_take _ rfl (fun KC hK => ?_); go_simp; (first | refine hK _ ?_ | refine ⟨_, fun _ _ => rfl, hK _ ?_⟩); clear hK KC)
        refine seq_done ?_
        go_wp2_with fail
        go_ret
        exact takepost_no (HSE.out.trans (if_neg (by rw [hv]; simp))) (((HU0.out.mono fun _ _ h => h.elim).trans (Upd.of_new hB0)).trans (Upd.of_new hb)) hec
  by_cases h2 : r.num = 2
  · have hty : r.num = 2 ∧ r.ty = 2 := by omega
    have HSE := Lib.hid (scF_2 hty D a b xs n)
    have d1 : ((r.num : Int) == 1) = false := by rw [beq_eq_false_iff_ne]; omega
    have d2 : ((r.num : Int) == 2) = true := by rw [beq_iff_eq]; omega
    clear hty hk HKN h2
    go_enter Try.func43, Try.ntmps43
    go_wp2_with fail
    rw [HW0.out]
    go_upto_region 5 with fail
    all_goals
      obtain ⟨D0, hD0⟩ : ∃ D0, W0.drew = D0 := ⟨_, rfl⟩
      have hB0 : Below W0.heap.size W0 D0 := by rw [← hD0]; exact (Below.refl _ _).drew
      have hS : (fun w' : World => w'.heap[rb]? = some (.cells #[.int .i64 (r.num : Int), .int .i64 (r.ty : Int), .int .u64 (r.n : Int), .string X, .string ⟨r.raw.toArray⟩] 71 (0, 0))) D0 := (hB0.block _ (row_lt HR0.out)).trans HR0.out
      have hne : Nonempty {w' : World // (fun w' : World => w'.heap[rb]? = some (.cells #[.int .i64 (r.num : Int), .int .i64 (r.ty : Int), .int .u64 (r.n : Int), .string X, .string ⟨r.raw.toArray⟩] 71 (0, 0))) w'} := ⟨⟨_, hS⟩⟩
      refine wp_region_seq (S := fun w' : World => w'.heap[rb]? = some (.cells #[.int .i64 (r.num : Int), .int .i64 (r.ty : Int), .int .u64 (r.n : Int), .string X, .string ⟨r.raw.toArray⟩] 71 (0, 0))) [(0, true), (1, true), (2, true), (3, true), (4, true), (5, false), (6, true)] (by kernel_rfl) (by kernel_rfl) (by kernel_rfl) (by kernel_rfl) (by rw [hD0]; exact hS) ?_
      rw [hD0]
      iterate 4 (refine seq_take _ rfl (fun KC hK => ?_); go_simp; (first | refine hK _ ?_ | refine ⟨_, fun _ _ => rfl, hK _ ?_⟩); clear hK KC)
      refine seq_take _ rfl (fun KC hK => ?_); go_simp
      refine ⟨.string X, fun a ha => by rw [row_cell ha (j := 3) rfl]; rfl, hK _ ?_⟩
      clear hK KC
      have HT := Lib.hid (text_to (cs := scRow (a, b, xs, n) v) (T := 25) bx 1 _ X D0 hXs (Lib.hid ((hB0.block _ (row_lt H10.out)).trans H10.out)) rfl)
      refine seq_come _ rfl (fun KC hK => ?_); go_simp
      refine HT.out.mono ?_; intro e w1 hp
      unfold TextPost at hp
      rw [HXD.out] at hp
      cases hv : uvalid r.s with
      | true =>
        rw [if_pos hv] at hp
        obtain ⟨rfl, rfl⟩ := hp
        have hset := rowT_set (C := kcel) (T := 63) (row := scRow) (ls := fun st => st.2.2.1) (st := (a, b, xs, n)) (st' := (a, r.s, xs, n)) 1 (.string X) ((hB0.block _ (row_lt H10.out)).trans H10.out) (H20.out.kept ((Upd.of_new (S := fun _ => False) hB0).mono fun _ _ h => h.elim)) (by rw [← HX.out]; rfl) rfl
        have hS1 : (fun w' : World => w'.heap[rb]? = some (.cells #[.int .i64 (r.num : Int), .int .i64 (r.ty : Int), .int .u64 (r.n : Int), .string X, .string ⟨r.raw.toArray⟩] 71 (0, 0))) (D0.setCell ⟨bx, 1, none⟩ (.string X)) := (hset.2.block rb (row_lt hS) (fun e => by have e : rb = bx := e; omega)).trans hS
        have HSET := Lib.hid hset
        go_simp
        refine hK.out _ _ hS1 ?_; clear hK KC hset
        (refine seq_take _ rfl (fun KC hK => ?_); go_simp; (first | refine hK _ ?_ | refine ⟨_, fun _ _ => rfl, hK _ ?_⟩); clear hK KC)
        refine seq_done ?_
        go_wp2_with fail
        go_ret
        exact takepost_ok (HSE.out.trans (if_pos hv)) (((HU0.out.mono fun _ _ h => h.elim).trans (Upd.of_new hB0)).trans (HSET.out.2.mono fun k _ h => .inl h)) HSET.out.1 (fun k hk => .inl hk)
      | false =>
        rw [if_neg (by rw [hv]; simp)] at hp
        obtain ⟨y, rfl, hec, hb⟩ := hp
        obtain ⟨T', z, rfl⟩ := hec.iface
        have hS1 : (fun w' : World => w'.heap[rb]? = some (.cells #[.int .i64 (r.num : Int), .int .i64 (r.ty : Int), .int .u64 (r.n : Int), .string X, .string ⟨r.raw.toArray⟩] 71 (0, 0))) w1 := (hb.block _ (row_lt hS)).trans hS
        go_simp
        refine hK.out _ _ hS1 ?_; clear hK KC
        (refine seq_take _ rfl (fun KC hK => ?_); go_simp; (first | refine hK _ ?_ | refine ⟨_, fun _ _ => rfl, hK _ ?_⟩); clear hK KC)
        refine seq_done ?_
        go_wp2_with fail
        go_ret
        exact takepost_no (HSE.out.trans (if_neg (by rw [hv]; simp))) (((HU0.out.mono fun _ _ h => h.elim).trans (Upd.of_new hB0)).trans (Upd.of_new hb)) hec
  by_cases h3 : r.num = 3
  · have hty : r.num = 3 ∧ r.ty = 2 := by omega
    have HSE := Lib.hid (scF_3 hty D a b xs n)
    have d1 : ((r.num : Int) == 1) = false := by rw [beq_eq_false_iff_ne]; omega
    have d2 : ((r.num : Int) == 2) = false := by rw [beq_eq_false_iff_ne]; omega
    have d3 : ((r.num : Int) == 3) = true := by rw [beq_iff_eq]; omega
    clear hty hk HKN h3
    go_enter Try.func43, Try.ntmps43
    go_wp2_with fail
    rw [HW0.out]
    go_upto_region 7 with fail
    all_goals
      obtain ⟨D0, hD0⟩ : ∃ D0, W0.drew = D0 := ⟨_, rfl⟩
      have hB0 : Below W0.heap.size W0 D0 := by rw [← hD0]; exact (Below.refl _ _).drew
      have hS : (fun w' : World => w'.heap[rb]? = some (.cells #[.int .i64 (r.num : Int), .int .i64 (r.ty : Int), .int .u64 (r.n : Int), .string X, .string ⟨r.raw.toArray⟩] 71 (0, 0))) D0 := (hB0.block _ (row_lt HR0.out)).trans HR0.out
      have hne : Nonempty {w' : World // (fun w' : World => w'.heap[rb]? = some (.cells #[.int .i64 (r.num : Int), .int .i64 (r.ty : Int), .int .u64 (r.n : Int), .string X, .string ⟨r.raw.toArray⟩] 71 (0, 0))) w'} := ⟨⟨_, hS⟩⟩
      refine wp_region_seq (S := fun w' : World => w'.heap[rb]? = some (.cells #[.int .i64 (r.num : Int), .int .i64 (r.ty : Int), .int .u64 (r.n : Int), .string X, .string ⟨r.raw.toArray⟩] 71 (0, 0))) [(0, true), (1, true), (2, true), (3, true), (4, true), (5, true), (6, false), (7, true)] (by kernel_rfl) (by kernel_rfl) (by kernel_rfl) (by kernel_rfl) (by rw [hD0]; exact hS) ?_
      rw [hD0]
      iterate 4 (refine seq_take _ rfl (fun KC hK => ?_); go_simp; (first | refine hK _ ?_ | refine ⟨_, fun _ _ => rfl, hK _ ?_⟩); clear hK KC)
      refine seq_take _ rfl (fun KC hK => ?_); go_simp
      refine ⟨.string X, fun a ha => by rw [row_cell ha (j := 3) rfl]; rfl, hK _ ?_⟩
      clear hK KC
      (refine seq_take _ rfl (fun KC hK => ?_); go_simp; (first | refine hK _ ?_ | refine ⟨_, fun _ _ => rfl, hK _ ?_⟩); clear hK KC)
      have HA := Lib.hid (addk_any bx 2 (bx + 1) (scRow (a, b, xs, n) v) 25 v xs P1 47 X (D - 1) (kread 1000001 r.s (D - 1)) D0 (enters_of Try.func47 (by kernel_rfl) rfl) (Lib.hid ((hB0.block _ (row_lt H10.out)).trans H10.out)) rfl ⟨by omega, by have := hB0.size; omega⟩ (Lib.hid (H20.out.kept ((Upd.of_new (S := fun _ => False) hB0).mono fun _ _ h => h.elim))) hl (Lib.hid (fun w' => by have := hU.out X (D - 1) w' hXs (by omega); rwa [HXD.out] at this)))
      refine seq_come _ rfl (fun KC hK => ?_); go_simp
      refine HA.out.mono ?_; intro e w1 hpost
      have hS1 : (fun w' : World => w'.heap[rb]? = some (.cells #[.int .i64 (r.num : Int), .int .i64 (r.ty : Int), .int .u64 (r.n : Int), .string X, .string ⟨r.raw.toArray⟩] 71 (0, 0))) w1 := (hpost.1.block rb (row_lt hS) (fun e => by
        rcases e with e | e
        · omega
        · have := (H2.out.lt rb e).2; have := HRB.out; omega)).trans hS
      cases hrd : kread 1000001 r.s (D - 1) with
      | error c =>
        rw [hrd] at hpost HSE
        obtain ⟨hu1, y, rfl, hec⟩ := hpost
        obtain ⟨T', z, rfl⟩ := hec.iface
        go_simp
        refine hK.out _ _ hS1 ?_; clear hK KC
        (refine seq_take _ rfl (fun KC hK => ?_); go_simp; (first | refine hK _ ?_ | refine ⟨_, fun _ _ => rfl, hK _ ?_⟩); clear hK KC)
        refine seq_done ?_
        go_wp2_with fail
        go_ret
        exact takepost_no HSE.out (((HU0.out.mono fun _ _ h => h.elim).trans (Upd.of_new hB0)).trans hu1) hec
      | ok x =>
        rw [hrd] at hpost HSE
        obtain ⟨rfl, hu, P', hr, hp⟩ := rowT_add (ls := fun st : List UInt8 × List UInt8 × List KV × Nat => st.2.2.1) (st := (a, b, xs, n)) (st' := (a, b, xs ++ [x], n)) hpost (fun v' => rfl) rfl
        go_simp
        refine hK.out _ _ hS1 ?_; clear hK KC
        (refine seq_take _ rfl (fun KC hK => ?_); go_simp; (first | refine hK _ ?_ | refine ⟨_, fun _ _ => rfl, hK _ ?_⟩); clear hK KC)
        refine seq_done ?_
        have HU := Lib.hid hu
        have HRL := Lib.hid hr
        have HP := Lib.hid hp
        clear hu hr hp hpost hrd
        go_wp2_with fail
        go_ret
        exact takepost_ok HSE.out (((HU0.out.mono fun _ _ h => h.elim).trans (Upd.of_new hB0)).trans HU.out) HRL.out (fun k hk => (HP.out k hk).imp id (fun h => Nat.le_trans (Nat.le_trans hsz hB0.size) h))
  have hty : r.num = 4 ∧ r.ty = 0 := by omega
  have HSE := Lib.hid (scF_4 hty D a b xs n)
  have d1 : ((r.num : Int) == 1) = false := by rw [beq_eq_false_iff_ne]; omega
  have d2 : ((r.num : Int) == 2) = false := by rw [beq_eq_false_iff_ne]; omega
  have d3 : ((r.num : Int) == 3) = false := by rw [beq_eq_false_iff_ne]; omega
  have d4 : ((r.num : Int) == 4) = true := by rw [beq_iff_eq]; omega
  have q1 := u32_wrap r.n
  have hc3 : W0.cell? ⟨bx, 3, none⟩ = some (.int .u32 (n : Int)) := row_cell H10.out (j := 3) rfl
  have hf3 : W0.frozen? ⟨bx, 3, none⟩ = false := row_thaw H10.out 3
  have HP := Lib.hid (rowT_set (C := kcel) (T := 63) (row := scRow) (ls := fun st : List UInt8 × List UInt8 × List KV × Nat => st.2.2.1) (st := (a, b, xs, n)) (st' := (a, b, xs, r.n % 4294967296)) 3 (.int .u32 ((r.n : Int) % 4294967296)) H10.out H20.out (by unfold scRow; rw [show ((r.n : Int) % 4294967296) = ((r.n % 4294967296 : Nat) : Int) by omega]; rfl) rfl)
  rw [← HW0.out] at hc3 hf3
  clear hty hk HKN
  go_enter Try.func43, Try.ntmps43
  go_wp2_with fail
  rw [HW0.out]
  go_ret
  exact takepost_ok HSE.out ((HU0.out.mono fun _ _ h => h.elim).trans (HP.out.2.mono fun k _ h => .inl h)) HP.out.1 (fun k hk => .inl hk)
set_option maxRecDepth 1000000 in
set_option maxHeartbeats 8000000 in
theorem scclo_any (hU : Hid UKey) (bx bd : Nat) (D : Int) (r : Rec) (st : List UInt8 × List UInt8 × List KV × Nat) (P : Nat → Prop) (w : World) (hD : -9223372036854775807 ≤ D ∧ D ≤ 9223372036854775807) (hk : scF.tk r = true) (hs : r.s.length ≤ 1000000) (hl : st.2.2.1.length ≤ 1000000) (h : Hid ((capT (scT bx) bd D).rel st P w)) :
    Calls Try.prog 41 #[recV r, .pointer (some ⟨bx, 0, none⟩), .pointer (some ⟨bd, 0, none⟩)] w (TakePost (capT (scT bx) bd D) (scF.step D) st P r w) := by
  obtain ⟨P0, hr, hn, hb, rfl⟩ := h.out
  refine Calls.mono ?_ (fun e w' hp => capT_post hp hn hb)
  have HR := Lib.hid hr
  have HB := Lib.hid hb
  clear h hr hb
  obtain ⟨X, hX⟩ : ∃ X : ByteArray, (⟨r.s.toArray⟩ : ByteArray) = X := ⟨_, rfl⟩
  have HX : Hid ((⟨r.s.toArray⟩ : ByteArray) = X) := Lib.hid hX
  obtain ⟨rb, hrb⟩ : ∃ rb, w.heap.size = rb := ⟨_, rfl⟩
  obtain ⟨W0, hW0⟩ : ∃ W0, w.alloc (.cells #[.int .i64 (r.num : Int), .int .i64 (r.ty : Int), .int .u64 (r.n : Int), .string X, .string ⟨r.raw.toArray⟩] 71) = W0 := ⟨_, rfl⟩
  have HB0 : Hid (Below w.heap.size w W0) := Lib.hid (by rw [← hW0]; exact below_new _ _)
  have HR0 : Hid (W0.heap[rb]? = some (.cells #[.int .i64 (r.num : Int), .int .i64 (r.ty : Int), .int .u64 (r.n : Int), .string X, .string ⟨r.raw.toArray⟩] 71 (0, 0))) := Lib.hid (by rw [← hW0, ← hrb]; exact heap_alloc_new _ _)
  have HW0 := Lib.hid hW0
  have HRB := Lib.hid hrb
  have q1 : IntKind.i64.wrap (D - 1) = D - 1 := IntWalk.i64_in _ (by omega)
  unfold recV
  rw [hX]
  clear hX hW0
  go_enter Try.func41, Try.ntmps41
  go_wp2_with fail
  rw [HW0.out]
  go_upto_region 1 with fail
  all_goals
    obtain ⟨D0, hD0⟩ : ∃ D0, W0.drew = D0 := ⟨_, rfl⟩
    have hB0 : Below W0.heap.size W0 D0 := by rw [← hD0]; exact (Below.refl _ _).drew
    have HBD := Lib.hid (below_step HB0.out hB0)
    have hS : R2 rb #[.int .i64 (r.num : Int), .int .i64 (r.ty : Int), .int .u64 (r.n : Int), .string X, .string ⟨r.raw.toArray⟩] 71 bd #[.int .i64 D] 3 D0 := ⟨(hB0.block _ (row_lt HR0.out)).trans HR0.out, (HBD.out.block _ (row_lt HB.out)).trans HB.out⟩
    have hne : Nonempty {w' : World // R2 rb #[.int .i64 (r.num : Int), .int .i64 (r.ty : Int), .int .u64 (r.n : Int), .string X, .string ⟨r.raw.toArray⟩] 71 bd #[.int .i64 D] 3 w'} := ⟨⟨_, hS⟩⟩
    refine wp_region_seq (S := R2 rb #[.int .i64 (r.num : Int), .int .i64 (r.ty : Int), .int .u64 (r.n : Int), .string X, .string ⟨r.raw.toArray⟩] 71 bd #[.int .i64 D] 3) [(0, true), (1, true), (2, true), (3, true), (4, true), (5, false), (6, false), (7, true)] (by kernel_rfl) (by kernel_rfl) (by kernel_rfl) (by kernel_rfl) (by rw [hD0]; exact hS) ?_
    rw [hD0]
    (refine seq_take _ rfl (fun KC hK => ?_); go_simp; (first | refine hK _ ?_ | refine ⟨_, fun _ _ => rfl, hK _ ?_⟩); clear hK KC)
    refine seq_take _ rfl (fun KC hK => ?_); go_simp
    refine ⟨.int .i64 (r.num : Int), fun a ha => by rw [row_cell ha.1 (j := 0) rfl]; rfl, hK _ ?_⟩
    clear hK KC
    refine seq_take _ rfl (fun KC hK => ?_); go_simp
    refine ⟨.agg #[.int .i64 (r.num : Int), .int .i64 (r.ty : Int), .int .u64 (r.n : Int), .string X, .string ⟨r.raw.toArray⟩], fun a ha => by (have e0 := row_cell ha.1 (j := 0) rfl; have e1 := row_cell ha.1 (j := 1) rfl; have e2 := row_cell ha.1 (j := 2) rfl; have e3 := row_cell ha.1 (j := 3) rfl; have e4 := row_cell ha.1 (j := 4) rfl); simp only [e0, e1, e2, e3, e4, Result.andThen]; rfl, hK _ ?_⟩
    clear hK KC
    refine seq_take _ rfl (fun KC hK => ?_); go_simp
    refine ⟨.int .i64 D, fun a ha => by rw [row_cell ha.2 (j := 0) rfl]; rfl, hK _ ?_⟩
    clear hK KC
    (refine seq_take _ rfl (fun KC hK => ?_); go_simp; (first | refine hK _ ?_ | refine ⟨_, fun _ _ => rfl, hK _ ?_⟩); clear hK KC)
    have HT := Lib.hid (sctake_any hU bx D r st P0 D0 hD hk hs hl (Lib.hid ((scT bx).kept _ _ _ _ HR.out (Upd.of_new HBD.out))))
    unfold recV at HT
    rw [HX.out] at HT
    refine seq_come _ rfl (fun KC hK => ?_); go_simp
    refine HT.out.mono ?_; rintro e w1 ⟨hu, hcase⟩
    have hlt := (scT bx).lt _ _ _ HR.out
    have hS1 : R2 rb #[.int .i64 (r.num : Int), .int .i64 (r.ty : Int), .int .u64 (r.n : Int), .string X, .string ⟨r.raw.toArray⟩] 71 bd #[.int .i64 D] 3 w1 := ⟨(hu.block rb (row_lt hS.1) (fun e => by have := hlt rb e; have := HRB.out; omega)).trans hS.1, (hu.block bd (row_lt hS.2) hn).trans hS.2⟩
    cases hst : scF.step D st r with
    | error c =>
      rw [hst] at hcase
      obtain ⟨y, rfl, hec⟩ := hcase
      obtain ⟨T', z, rfl⟩ := hec.iface
      have HEC := Lib.hid hec
      have HU := Lib.hid hu
      clear hec hu hlt
      go_simp
      refine hK.out _ _ hS1 ?_; clear hK KC
      refine seq_come _ rfl (fun KC hK => ?_); go_simp
      refine (in_any _ _ _ _).mono ?_; rintro e w' ⟨rfl, rfl⟩
      go_simp
      refine hK.out _ _ (hS1.below (below_new _ _)) ?_; clear hK KC
      (refine seq_take _ rfl (fun KC hK => ?_); go_simp; (first | refine hK _ ?_ | refine ⟨_, fun _ _ => rfl, hK _ ?_⟩); clear hK KC)
      refine seq_done ?_
      go_wp2_with fail
      go_ret
      exact takepost_no hst (((Upd.of_new HBD.out).trans HU.out).trans (Upd.alloc _ _ _)) (ec_field HEC.out)
    | ok st' =>
      rw [hst] at hcase
      obtain ⟨rfl, P', hr, hp⟩ := hcase
      have HRL := Lib.hid hr
      have HP := Lib.hid hp
      have HU := Lib.hid hu
      clear hr hp hu hlt
      go_simp
      refine hK.out _ _ hS1 ?_; clear hK KC
      refine seq_come _ rfl (fun KC hK => ?_); go_simp
      refine (in_nil _ _).mono ?_; rintro e w' ⟨rfl, rfl⟩
      go_simp
      refine hK.out _ _ hS1 ?_; clear hK KC
      (refine seq_take _ rfl (fun KC hK => ?_); go_simp; (first | refine hK _ ?_ | refine ⟨_, fun _ _ => rfl, hK _ ?_⟩); clear hK KC)
      refine seq_done ?_
      go_wp2_with fail
      go_ret
      exact takepost_ok hst ((Upd.of_new HBD.out).trans HU.out) HRL.out (fun k hk => (HP.out k hk).imp id (fun h => Nat.le_trans HBD.out.size h))
end Go.Proofs.Ytbdbmkmebeemoaa
