/-
  A scope, a resource, by their fields.
-/
/-
  Takers of messages with a list: a resource's, a scope's.
-/
/-
  scope.UnmarshalRes, scope.Unmarshal: any text.
-/
import Derived.Test.YtbdbmkmebeemoaaGreatDoorFldB
import Derived.Test.YtbdbmkmebeemoaaGreatDoorAdd
import Derived.Test.YtbdbmkmebeemoaaGreatDoorValKey
import Derived.Test.YtbdbmkmebeemoaaGreatDoorIn
import Derived.Test.YtbdbmkmebeemoaaGreatDoorFx
namespace Go.Proofs.YtbdbmkmebeemoaaGreatDoor
open Go.RowKit

/-- what a resource has: its attributes, how many were dropped -/
def rsF : Fld := (listF 1 kvS).and (var32F 2)
/-- what a scope has: name, version, attributes, how many were dropped -/
def scF : Fld := (textF 1).and ((textF 2).and ((listF 3 kvS).and (var32F 4)))
theorem apart_of {A B : Fld} (h : ∀ r, A.tk r = true → B.tk r = false) : A.Apart B := fun r hr => by rw [h r hr.1] at hr; cases hr.2
theorem rsF_ok : rsF.Ok := (listF_ok kvS_ok (by omega) (by omega)).and (var32F_ok (by omega) (by omega)) (apart_of fun r h => by
  have h : r.num = 1 ∧ r.ty = 2 := of_decide_eq_true h
  exact decide_eq_false (by omega))
theorem scF_ok : scF.Ok := (textF_ok (by omega) (by omega)).and ((textF_ok (by omega) (by omega)).and ((listF_ok kvS_ok (by omega) (by omega)).and (var32F_ok (by omega) (by omega)) (apart_of fun r h => by
  have h : r.num = 3 ∧ r.ty = 2 := of_decide_eq_true h
  exact decide_eq_false (by omega))) (apart_of fun r h => by
  have h : r.num = 2 ∧ r.ty = 2 := of_decide_eq_true h
  show (decide _ || decide _) = false
  rw [decide_eq_false (by omega), decide_eq_false (by omega)]; rfl)) (apart_of fun r h => by
  have h : r.num = 1 ∧ r.ty = 2 := of_decide_eq_true h
  show (decide _ || (decide _ || decide _)) = false
  rw [decide_eq_false (by omega), decide_eq_false (by omega), decide_eq_false (by omega)]; rfl)
theorem rsF_tk (r : Rec) : rsF.tk r = decide (r.num = 1 ∧ r.ty = 2 ∨ r.num = 2 ∧ r.ty = 0) := by
  show (decide _ || decide _) = _
  rw [Bool.decide_or]
theorem scF_tk (r : Rec) : scF.tk r = decide ((r.num = 1 ∨ r.num = 2 ∨ r.num = 3) ∧ r.ty = 2 ∨ r.num = 4 ∧ r.ty = 0) := by
  show (decide _ || (decide _ || (decide _ || decide _))) = _
  rw [← Bool.decide_or, ← Bool.decide_or, ← Bool.decide_or]
  exact decide_eq_decide.2 (by omega)
theorem kv_ok {num : Nat} {d : Int} {l : List KV} {r : Rec} {x : KV} (e : kread 1000001 r.s (d - 1) = .ok x) : (listF num kvS).step d l r = .ok (l ++ [x]) := by
  show listStep kvS d l r = _
  unfold listStep
  rw [show kvS.rd (d - 1) r.s = .ok x from e]
  rfl
theorem kv_no {num : Nat} {d : Int} {l : List KV} {r : Rec} {c : Nat} (e : kread 1000001 r.s (d - 1) = .error c) : (listF num kvS).step d l r = .error c := by
  show listStep kvS d l r = _
  unfold listStep
  rw [show kvS.rd (d - 1) r.s = .error c from e]
  rfl
theorem text_ok {num : Nat} {d : Int} {a : List UInt8} {r : Rec} (e : uvalid r.s = true) : (textF num).step d a r = .ok r.s := if_pos e
theorem text_no {num : Nat} {d : Int} {a : List UInt8} {r : Rec} (e : uvalid r.s = false) : (textF num).step d a r = .error 5 := if_neg (by rw [e]; simp)
theorem rsF_1 {r : Rec} (h : r.num = 1 ∧ r.ty = 2) (d : Int) (l : List KV) (n : Nat) : rsF.step d (l, n) r = match kread 1000001 r.s (d - 1) with
    | .error c => .error c
    | .ok x => .ok (l ++ [x], n) := by
  cases e : kread 1000001 r.s (d - 1) with
  | error c => exact Fld.and_1no (decide_eq_true h) (kv_no e)
  | ok x => exact Fld.and_1ok (decide_eq_true h) (kv_ok e)
theorem rsF_2 {r : Rec} (h : r.num = 2 ∧ r.ty = 0) (d : Int) (l : List KV) (n : Nat) : rsF.step d (l, n) r = .ok (l, r.n % 4294967296) :=
  Fld.and_2ok (decide_eq_false (by omega)) rfl
theorem scF_1 {r : Rec} (h : r.num = 1 ∧ r.ty = 2) (d : Int) (a b : List UInt8) (l : List KV) (n : Nat) : scF.step d (a, b, l, n) r = if uvalid r.s then .ok (r.s, b, l, n) else .error 5 := by
  cases e : uvalid r.s with
  | true => exact Fld.and_1ok (decide_eq_true h) (text_ok e)
  | false => exact Fld.and_1no (decide_eq_true h) (text_no e)
theorem scF_2 {r : Rec} (h : r.num = 2 ∧ r.ty = 2) (d : Int) (a b : List UInt8) (l : List KV) (n : Nat) : scF.step d (a, b, l, n) r = if uvalid r.s then .ok (a, r.s, l, n) else .error 5 := by
  cases e : uvalid r.s with
  | true => exact Fld.and_2ok (decide_eq_false (by omega)) (Fld.and_1ok (decide_eq_true h) (text_ok e))
  | false => exact Fld.and_2no (decide_eq_false (by omega)) (Fld.and_1no (decide_eq_true h) (text_no e))
theorem scF_3 {r : Rec} (h : r.num = 3 ∧ r.ty = 2) (d : Int) (a b : List UInt8) (l : List KV) (n : Nat) : scF.step d (a, b, l, n) r = match kread 1000001 r.s (d - 1) with
    | .error c => .error c
    | .ok x => .ok (a, b, l ++ [x], n) := by
  cases e : kread 1000001 r.s (d - 1) with
  | error c => exact Fld.and_2no (decide_eq_false (by omega)) (Fld.and_2no (decide_eq_false (by omega)) (Fld.and_1no (decide_eq_true h) (kv_no e)))
  | ok x => exact Fld.and_2ok (decide_eq_false (by omega)) (Fld.and_2ok (decide_eq_false (by omega)) (Fld.and_1ok (decide_eq_true h) (kv_ok e)))
theorem scF_4 {r : Rec} (h : r.num = 4 ∧ r.ty = 0) (d : Int) (a b : List UInt8) (l : List KV) (n : Nat) : scF.step d (a, b, l, n) r = .ok (a, b, l, r.n % 4294967296) :=
  Fld.and_2ok (decide_eq_false (by omega)) (Fld.and_2ok (decide_eq_false (by omega)) (Fld.and_2ok (decide_eq_false (by omega)) rfl))
end Go.Proofs.YtbdbmkmebeemoaaGreatDoor
namespace Go.Proofs.YtbdbmkmebeemoaaGreatDoor
open Go.RowKit

/-- a taker, with the depth that its closure holds at bd -/
def capT {σ : Type} (R : Taker σ) (bd : Nat) (D : Int) : Taker σ where
  rel st P w := ∃ P0, R.rel st P0 w ∧ ¬ P0 bd ∧ w.heap[bd]? = some (.cells #[.int .i64 D] 3 (0, 0)) ∧ P = fun k => P0 k ∨ k = bd
  lt := by
    rintro st P w ⟨P0, h1, _, h2, rfl⟩ k (hk | rfl)
    · exact R.lt _ _ _ h1 k hk
    · exact row_lt h2
  kept := by
    rintro st P w w' ⟨P0, h1, h0, h2, rfl⟩ hu
    exact ⟨P0, R.kept _ _ _ _ h1 (hu.mono fun k _ h h' => h (.inl h')), h0, (hu.block bd (row_lt h2) (fun h => h (.inr rfl))).trans h2, rfl⟩
/-- a message at block bx, with one list -/
def rowT {σ α : Type} (C : Cel α) (T T0 : TypeId) (row : σ → Value → Array Value) (ls : σ → List α) (bx : Nat) : Taker σ where
  rel st P w := ∃ v P1, w.heap[bx]? = some (.cells (row st v) T0 (0, 0)) ∧ LsAt C T (bx + 1) v (ls st) P1 w ∧ P = fun k => k = bx ∨ P1 k
  lt := by
    rintro st P w ⟨v, P1, h1, h2, rfl⟩ k (rfl | hk)
    · exact row_lt h1
    · exact (h2.lt k hk).2
  kept := by
    rintro st P w w' ⟨v, P1, h1, h2, rfl⟩ hu
    exact ⟨v, P1, (hu.block bx (row_lt h1) (fun h => h (.inl rfl))).trans h1, h2.kept (hu.mono fun k _ h h' => h (.inr h')), rfl⟩
/-- one cell of it written -/
theorem rowT_set {σ α : Type} {C : Cel α} {T T0 : TypeId} {row : σ → Value → Array Value} {ls : σ → List α} {bx : Nat} {st st' : σ} {v : Value} {P1 : Nat → Prop} {w : World} (o : Nat) (u : Value) (h1 : w.heap[bx]? = some (.cells (row st v) T0 (0, 0))) (h2 : LsAt C T (bx + 1) v (ls st) P1 w) (hr : (row st v).setIfInBounds o u = row st' v) (hl : ls st' = ls st) :
    (rowT C T T0 row ls bx).rel st' (fun k => k = bx ∨ P1 k) (w.setCell ⟨bx, o, none⟩ u) ∧ Upd (fun k => k = bx) w (w.setCell ⟨bx, o, none⟩ u) := by
  have hu := Upd.set w ⟨bx, o, none⟩ u
  refine ⟨⟨v, P1, hr ▸ row_set h1 o u, ?_, rfl⟩, hu⟩
  rw [hl]
  exact h2.kept (hu.mono fun k _ h h' => by have h : k = bx := h; have := (h2.lt k h').1; omega)
/-- one more of its list -/
theorem rowT_add {σ α : Type} {C : Cel α} {T T0 : TypeId} {row : σ → Value → Array Value} {ls : σ → List α} {bx o : Nat} {st st' : σ} {v : Value} {x : α} {P1 : Nat → Prop} {w : World} {e : Ending} {w' : World} (h : AddPost C T T0 bx o (bx + 1) (row st v) (ls st) P1 (.ok x) w e w') (hr : ∀ v', (row st v).setIfInBounds o v' = row st' v') (hl : ls st' = ls st ++ [x]) :
    e = .returned .nilIface ∧ Upd (fun k => k = bx ∨ P1 k) w w' ∧ ∃ P', (rowT C T T0 row ls bx).rel st' P' w' ∧ ∀ k, P' k → (k = bx ∨ P1 k) ∨ w.heap.size ≤ k := by
  obtain ⟨hu, he, v', P', h1, h2, h3⟩ := h
  refine ⟨he, hu, _, ⟨v', P', hr v' ▸ h1, hl ▸ h2, rfl⟩, ?_⟩
  rintro k (rfl | hk)
  · exact .inl (.inl rfl)
  · exact (h3 k hk).imp .inr id
theorem takepost_no {σ : Type} {R : Taker σ} {step : σ → Rec → Except Nat σ} {st : σ} {P : Nat → Prop} {r : Rec} {w w' : World} {v : Value} {c : Nat} (hs : step st r = .error c) (hu : Upd P w w') (he : EC w' v c) : TakePost R step st P r w (.returned v) w' := ⟨hu, by rw [hs]; exact ⟨v, rfl, he⟩⟩
theorem takepost_ok {σ : Type} {R : Taker σ} {step : σ → Rec → Except Nat σ} {st st' : σ} {P P' : Nat → Prop} {r : Rec} {w w' : World} (hs : step st r = .ok st') (hu : Upd P w w') (hr : R.rel st' P' w') (hp : ∀ k, P' k → P k ∨ w.heap.size ≤ k) : TakePost R step st P r w (.returned .nilIface) w' := ⟨hu, by rw [hs]; exact ⟨rfl, P', hr, hp⟩⟩
/-- from a taker to the one whose closure holds the depth -/
theorem capT_post {σ : Type} {R : Taker σ} {bd : Nat} {D : Int} {step : σ → Rec → Except Nat σ} {st : σ} {P0 : Nat → Prop} {r : Rec} {w : World} {e : Ending} {w' : World} (h : TakePost R step st P0 r w e w') (h0 : ¬ P0 bd) (h2 : w.heap[bd]? = some (.cells #[.int .i64 D] 3 (0, 0))) : TakePost (capT R bd D) step st (fun k => P0 k ∨ k = bd) r w e w' := by
  obtain ⟨hu, hc⟩ := h
  refine ⟨hu.mono fun k _ h => .inl h, ?_⟩
  cases hs : step st r with
  | error c => rw [hs] at hc; exact hc
  | ok st' =>
    rw [hs] at hc
    obtain ⟨he, P', h3, h4⟩ := hc
    have hb := row_lt h2
    refine ⟨he, _, ⟨P', h3, fun h => ?_, (hu.block bd hb h0).trans h2, rfl⟩, ?_⟩
    · rcases h4 bd h with h | h
      · exact h0 h
      · omega
    · rintro k (hk | rfl)
      · exact (h4 k hk).imp .inl id
      · exact .inl (.inr rfl)
def rsRow (st : List KV × Nat) (v : Value) : Array Value := #[v, .int .u32 (st.2 : Int), .string ⟨#[]⟩]
def rsT (bx : Nat) : Taker (List KV × Nat) := rowT kcel 78 45 rsRow Prod.fst bx
/-- reading attributes, any text -/
def UKey : Prop := ∀ (Y : ByteArray) (d' : Int) (w' : World), Y.size ≤ 1000000 → -9223372036854775808 ≤ d' ∧ d' ≤ 9223372036854775807 → Calls Tryz.prog 61 #[.string Y, .int .i64 d'] w' (RdPost kcel kzero (kread 1000001 Y.data.toList d') Y.size w')
theorem ukey_any : UKey := fun Y d' w' hY hd => ((both_any 1000001 Y d' w' (by omega) hY hd).2).mono fun _ _ h => kpost_rd h
theorem u32_wrap (n : Nat) : IntKind.u32.wrap (n : Int) = ((n % 4294967296 : Nat) : Int) := by
  show ((n : Int) % 4294967296) = _
  omega
set_option maxRecDepth 1000000 in
set_option maxHeartbeats 8000000 in
theorem rsclo_any (hU : Hid UKey) (bx bd : Nat) (D : Int) (r : Rec) (st : List KV × Nat) (P : Nat → Prop) (w : World) (hD : -9223372036854775807 ≤ D ∧ D ≤ 9223372036854775807) (hk : rsF.tk r = true) (hs : r.s.length ≤ 1000000) (hl : st.1.length ≤ 1000000) (h : Hid ((capT (rsT bx) bd D).rel st P w)) :
    Calls Tryz.prog 59 #[recV r, .pointer (some ⟨bx, 0, none⟩), .pointer (some ⟨bd, 0, none⟩)] w (TakePost (capT (rsT bx) bd D) (rsF.step D) st P r w) := by
  obtain ⟨P0, hr, hn, hb, rfl⟩ := h.out
  refine Calls.mono ?_ (fun e w' hp => capT_post hp hn hb)
  obtain ⟨v, P1, h1, h2, rfl⟩ := hr
  obtain ⟨xs, n⟩ := st
  have H1 := Lib.hid h1
  have H2 := Lib.hid h2
  have HB := Lib.hid hb
  clear h h1 h2 hb
  obtain ⟨X, hX⟩ : ∃ X : ByteArray, (⟨r.s.toArray⟩ : ByteArray) = X := ⟨_, rfl⟩
  have hXs : X.size ≤ 1000000 := by rw [← hX]; simp [ByteArray.size]; omega
  have HXD : Hid (X.data.toList = r.s) := Lib.hid (by rw [← hX])
  obtain ⟨W0, hW0⟩ : ∃ W0, w.alloc (.cells #[.int .i64 (r.num : Int), .int .i64 (r.ty : Int), .int .u64 (r.n : Int), .string X, .string ⟨r.raw.toArray⟩] 61) = W0 := ⟨_, rfl⟩
  have HU0 : Hid (Upd (fun _ => False) w W0) := Lib.hid (by rw [← hW0]; exact Upd.alloc _ _ _)
  have H10 : Hid (W0.heap[bx]? = some (.cells (rsRow (xs, n) v) 45 (0, 0))) := Lib.hid ((HU0.out.block bx (row_lt H1.out) (fun h => h)).trans H1.out)
  have H20 : Hid (LsAt kcel 78 (bx + 1) v xs P1 W0) := Lib.hid (H2.out.kept (HU0.out.mono fun _ _ h => h.elim))
  have HW0 := Lib.hid hW0
  have hsz := HU0.out.size
  have hbx := row_lt H1.out
  have hcd : W0.cell? ⟨bd, 0, none⟩ = some (.int .i64 D) := row_cell ((HU0.out.block bd (row_lt HB.out) (fun h => h)).trans HB.out) (j := 0) rfl
  rw [rsF_tk, decide_eq_true_eq] at hk
  unfold recV
  rw [hX]
  clear hX
  by_cases h2 : r.num = 2
  · have HS : Hid (rsF.step D (xs, n) r = .ok (xs, r.n % 4294967296)) := Lib.hid (rsF_2 (by omega) D xs n)
    have d1 : ((r.num : Int) == 2) = true := by rw [beq_iff_eq]; omega
    have q1 := u32_wrap r.n
    have hc1 : W0.cell? ⟨bx, 1, none⟩ = some (.int .u32 (n : Int)) := row_cell H10.out (j := 1) rfl
    have hf1 : W0.frozen? ⟨bx, 1, none⟩ = false := row_thaw H10.out 1
    have hp := rowT_set (C := kcel) (T := 78) (row := rsRow) (ls := Prod.fst) (st := (xs, n)) (st' := (xs, r.n % 4294967296)) 1 (.int .u32 ((r.n : Int) % 4294967296)) H1.out H2.out (by unfold rsRow; rw [show ((r.n : Int) % 4294967296) = ((r.n % 4294967296 : Nat) : Int) by omega]; rfl) rfl
    have HP := Lib.hid hp
    rw [← hW0] at hc1 hf1
    clear hk h2 hp hcd hW0
    go_enter Tryz.func59, Tryz.ntmps59
    go_wp2_with fail
    go_ret
    exact takepost_ok HS.out ((HP.out.2.mono fun k _ h => .inl h).trans (Upd.alloc _ _ _)) ((rsT bx).kept _ _ _ _ HP.out.1 (Upd.alloc _ _ _)) (fun k hk => .inl hk)
  · have h1 : r.num = 1 ∧ r.ty = 2 := by omega
    have HSE := Lib.hid (rsF_1 h1 D xs n)
    have d1 : ((r.num : Int) == 2) = false := by rw [beq_eq_false_iff_ne]; omega
    have q1 : IntKind.i64.wrap (D - 1) = D - 1 := IntWalk.i64_in _ (by omega)
    have HA := Lib.hid (addk_any bx 0 (bx + 1) (rsRow (xs, n) v) 45 v xs P1 61 X (D - 1) (kread 1000001 r.s (D - 1)) W0 (enters_of Tryz.func61 (by kernel_rfl) rfl) H10 rfl ⟨by omega, by omega⟩ H20 hl (Lib.hid (fun w' => by have := hU.out X (D - 1) w' hXs (by omega); rwa [HXD.out] at this)))
    rw [← hW0] at hcd
    clear hk h2 h1 hW0
    go_enter Tryz.func59, Tryz.ntmps59
    go_wp2_with fail
    rw [HW0.out]
    refine HA.out.mono ?_; intro e w1 hpost
    cases hrd : kread 1000001 r.s (D - 1) with
    | error c =>
      rw [hrd] at hpost HSE
      obtain ⟨hu1, y, rfl, hec⟩ := hpost
      obtain ⟨T', z, rfl⟩ := hec.iface
      have HEC := Lib.hid hec
      have HU1 := Lib.hid hu1
      clear hec hu1 hrd hcd
      go_wp2_with fail
      refine (in_any _ _ _ _).mono ?_; rintro e w' ⟨rfl, rfl⟩
      go_wp2_with fail
      go_ret
      exact takepost_no HSE.out (((HU0.out.mono fun _ _ h => h.elim).trans HU1.out).trans (Upd.alloc _ _ _)) (ec_field HEC.out)
    | ok x =>
      rw [hrd] at hpost HSE
      obtain ⟨rfl, hu, P', hr, hp⟩ := rowT_add (row := rsRow) (ls := Prod.fst) (st := (xs, n)) (st' := (xs ++ [x], n)) hpost (fun v' => rfl) rfl
      have HU1 := Lib.hid hu
      have HR := Lib.hid hr
      have HP := Lib.hid hp
      clear hu hr hp hpost hrd hcd
      go_wp2_with fail
      refine (in_nil _ _).mono ?_; rintro e w' ⟨rfl, rfl⟩
      go_wp2_with fail
      go_ret
      exact takepost_ok HSE.out ((HU0.out.mono fun _ _ h => h.elim).trans HU1.out) HR.out (fun k hk => (HP.out k hk).imp id (fun h => Nat.le_trans hsz h))
def scRow (st : List UInt8 × List UInt8 × List KV × Nat) (v : Value) : Array Value := #[strV st.1, strV st.2.1, v, .int .u32 (st.2.2.2 : Int), .string ⟨#[]⟩]
def scT (bx : Nat) : Taker (List UInt8 × List UInt8 × List KV × Nat) := rowT kcel 78 26 scRow (fun st => st.2.2.1) bx
set_option maxRecDepth 1000000 in
set_option maxHeartbeats 8000000 in
theorem sctake_any (hU : Hid UKey) (bx : Nat) (D : Int) (r : Rec) (st : List UInt8 × List UInt8 × List KV × Nat) (P : Nat → Prop) (w : World) (hD : -9223372036854775807 ≤ D ∧ D ≤ 9223372036854775807) (hk : scF.tk r = true) (hs : r.s.length ≤ 1000000) (hl : st.2.2.1.length ≤ 1000000) (h : Hid ((scT bx).rel st P w)) :
    Calls Tryz.prog 35 #[.pointer (some ⟨bx, 0, none⟩), recV r, .int .i64 (D - 1)] w (TakePost (scT bx) (scF.step D) st P r w) := by
  obtain ⟨v, P1, h1, h2, rfl⟩ := h.out
  obtain ⟨a, b, xs, n⟩ := st
  have H1 := Lib.hid h1
  have H2 := Lib.hid h2
  clear h h1 h2
  obtain ⟨X, hX⟩ : ∃ X : ByteArray, (⟨r.s.toArray⟩ : ByteArray) = X := ⟨_, rfl⟩
  have hXs : X.size ≤ 1000000 := by rw [← hX]; simp [ByteArray.size]; omega
  have HXD : Hid (X.data.toList = r.s) := Lib.hid (by rw [← hX])
  have HX : Hid ((⟨r.s.toArray⟩ : ByteArray) = X) := Lib.hid hX
  obtain ⟨rb, hrb⟩ : ∃ rb, w.heap.size = rb := ⟨_, rfl⟩
  obtain ⟨W0, hW0⟩ : ∃ W0, w.alloc (.cells #[.int .i64 (r.num : Int), .int .i64 (r.ty : Int), .int .u64 (r.n : Int), .string X, .string ⟨r.raw.toArray⟩] 61) = W0 := ⟨_, rfl⟩
  have HU0 : Hid (Upd (fun _ => False) w W0) := Lib.hid (by rw [← hW0]; exact Upd.alloc _ _ _)
  have HR0 : Hid (W0.heap[rb]? = some (.cells #[.int .i64 (r.num : Int), .int .i64 (r.ty : Int), .int .u64 (r.n : Int), .string X, .string ⟨r.raw.toArray⟩] 61 (0, 0))) := Lib.hid (by rw [← hW0, ← hrb]; exact heap_alloc_new _ _)
  have H10 : Hid (W0.heap[bx]? = some (.cells (scRow (a, b, xs, n) v) 26 (0, 0))) := Lib.hid ((HU0.out.block bx (row_lt H1.out) (fun h => h)).trans H1.out)
  have H20 : Hid (LsAt kcel 78 (bx + 1) v xs P1 W0) := Lib.hid (H2.out.kept (HU0.out.mono fun _ _ h => h.elim))
  have HW0 := Lib.hid hW0
  have HRB := Lib.hid hrb
  have hsz := HU0.out.size
  have hbx := row_lt H1.out
  have hn0 : W0.cell? ⟨rb, 0, none⟩ = some (.int .i64 (r.num : Int)) := row_cell HR0.out (j := 0) rfl
  rw [scF_tk, decide_eq_true_eq] at hk
  have HKN := Lib.hid hk
  unfold recV
  rw [hX]
  rw [← hW0, ← hrb] at hn0
  clear hX hW0
  by_cases h1 : r.num = 1
  · have hty : r.num = 1 ∧ r.ty = 2 := by omega
    have HSE := Lib.hid (scF_1 hty D a b xs n)
    have d1 : ((r.num : Int) == 1) = true := by rw [beq_iff_eq]; omega
    clear hty hk HKN h1
    go_enter Tryz.func35, Tryz.ntmps35
    go_wp2_with fail
    rw [HW0.out]
    go_upto_region 3 with fail
    all_goals
      obtain ⟨D0, hD0⟩ : ∃ D0, W0.drew = D0 := ⟨_, rfl⟩
      have hB0 : Below W0.heap.size W0 D0 := by rw [← hD0]; exact (Below.refl _ _).drew
      have hS : (fun w' : World => w'.heap[rb]? = some (.cells #[.int .i64 (r.num : Int), .int .i64 (r.ty : Int), .int .u64 (r.n : Int), .string X, .string ⟨r.raw.toArray⟩] 61 (0, 0))) D0 := (hB0.block _ (row_lt HR0.out)).trans HR0.out
      have hne : Nonempty {w' : World // (fun w' : World => w'.heap[rb]? = some (.cells #[.int .i64 (r.num : Int), .int .i64 (r.ty : Int), .int .u64 (r.n : Int), .string X, .string ⟨r.raw.toArray⟩] 61 (0, 0))) w'} := ⟨⟨_, hS⟩⟩
      refine wp_region_seq (S := fun w' : World => w'.heap[rb]? = some (.cells #[.int .i64 (r.num : Int), .int .i64 (r.ty : Int), .int .u64 (r.n : Int), .string X, .string ⟨r.raw.toArray⟩] 61 (0, 0))) [(0, true), (1, true), (2, true), (3, true), (4, true), (5, false), (6, true)] (by kernel_rfl) (by kernel_rfl) (by kernel_rfl) (by kernel_rfl) (by rw [hD0]; exact hS) ?_
      rw [hD0]
      iterate 4 (refine seq_take _ rfl (fun KC hK => ?_); go_simp; (first | refine hK _ ?_ | refine ⟨_, fun _ _ => rfl, hK _ ?_⟩); clear hK KC)
      refine seq_take _ rfl (fun KC hK => ?_); go_simp
      refine ⟨.string X, fun a ha => by rw [row_cell ha (j := 3) rfl]; rfl, hK _ ?_⟩
      clear hK KC
      have HT := Lib.hid (text_to (cs := scRow (a, b, xs, n) v) (T := 26) bx 0 _ X D0 hXs (Lib.hid ((hB0.block _ (row_lt H10.out)).trans H10.out)) rfl)
      refine seq_come _ rfl (fun KC hK => ?_); go_simp
      refine HT.out.mono ?_; intro e w1 hp
      unfold TextPost at hp
      rw [HXD.out] at hp
      cases hv : uvalid r.s with
      | true =>
        rw [if_pos hv] at hp
        obtain ⟨rfl, rfl⟩ := hp
        have hset := rowT_set (C := kcel) (T := 78) (row := scRow) (ls := fun st => st.2.2.1) (st := (a, b, xs, n)) (st' := (r.s, b, xs, n)) 0 (.string X) ((hB0.block _ (row_lt H10.out)).trans H10.out) (H20.out.kept ((Upd.of_new (S := fun _ => False) hB0).mono fun _ _ h => h.elim)) (by rw [← HX.out]; rfl) rfl
        have hS1 : (fun w' : World => w'.heap[rb]? = some (.cells #[.int .i64 (r.num : Int), .int .i64 (r.ty : Int), .int .u64 (r.n : Int), .string X, .string ⟨r.raw.toArray⟩] 61 (0, 0))) (D0.setCell ⟨bx, 0, none⟩ (.string X)) := (hset.2.block rb (row_lt hS) (fun e => by have e : rb = bx := e; omega)).trans hS
        have HSET := Lib.hid hset
        go_simp
        refine hK.out _ _ hS1 ?_; clear hK KC hset
        (refine seq_take _ rfl (fun KC hK => ?_); go_simp; (first | refine hK _ ?_ | refine ⟨_, fun _ _ => rfl, hK _ ?_⟩); clear hK KC)
        refine seq_done ?_
        go_wp2_with fail
        go_ret
        exact takepost_ok (HSE.out.trans (if_pos hv)) (((HU0.out.mono fun _ _ h => h.elim).trans (Upd.of_new hB0)).trans (HSET.out.2.mono fun k _ h => .inl h)) HSET.out.1 (fun k hk => .inl hk)
      | false =>
        rw [if_neg (by rw [hv]; simp)] at hp
        obtain ⟨y, rfl, hec, hb⟩ := hp
        obtain ⟨T', z, rfl⟩ := hec.iface
        have hS1 : (fun w' : World => w'.heap[rb]? = some (.cells #[.int .i64 (r.num : Int), .int .i64 (r.ty : Int), .int .u64 (r.n : Int), .string X, .string ⟨r.raw.toArray⟩] 61 (0, 0))) w1 := (hb.block _ (row_lt hS)).trans hS
        go_simp
        refine hK.out _ _ hS1 ?_; clear hK KC
        (refine seq_take _ rfl (fun KC hK => ?_); go_simp; (first | refine hK _ ?_ | refine ⟨_, fun _ _ => rfl, hK _ ?_⟩); clear hK KC)
        refine seq_done ?_
        go_wp2_with fail
        go_ret
        exact takepost_no (HSE.out.trans (if_neg (by rw [hv]; simp))) (((HU0.out.mono fun _ _ h => h.elim).trans (Upd.of_new hB0)).trans (Upd.of_new hb)) hec
  by_cases h2 : r.num = 2
  · have hty : r.num = 2 ∧ r.ty = 2 := by omega
    have HSE := Lib.hid (scF_2 hty D a b xs n)
    have d1 : ((r.num : Int) == 1) = false := by rw [beq_eq_false_iff_ne]; omega
    have d2 : ((r.num : Int) == 2) = true := by rw [beq_iff_eq]; omega
    clear hty hk HKN h2
    go_enter Tryz.func35, Tryz.ntmps35
    go_wp2_with fail
    rw [HW0.out]
    go_upto_region 5 with fail
    all_goals
      obtain ⟨D0, hD0⟩ : ∃ D0, W0.drew = D0 := ⟨_, rfl⟩
      have hB0 : Below W0.heap.size W0 D0 := by rw [← hD0]; exact (Below.refl _ _).drew
      have hS : (fun w' : World => w'.heap[rb]? = some (.cells #[.int .i64 (r.num : Int), .int .i64 (r.ty : Int), .int .u64 (r.n : Int), .string X, .string ⟨r.raw.toArray⟩] 61 (0, 0))) D0 := (hB0.block _ (row_lt HR0.out)).trans HR0.out
      have hne : Nonempty {w' : World // (fun w' : World => w'.heap[rb]? = some (.cells #[.int .i64 (r.num : Int), .int .i64 (r.ty : Int), .int .u64 (r.n : Int), .string X, .string ⟨r.raw.toArray⟩] 61 (0, 0))) w'} := ⟨⟨_, hS⟩⟩
      refine wp_region_seq (S := fun w' : World => w'.heap[rb]? = some (.cells #[.int .i64 (r.num : Int), .int .i64 (r.ty : Int), .int .u64 (r.n : Int), .string X, .string ⟨r.raw.toArray⟩] 61 (0, 0))) [(0, true), (1, true), (2, true), (3, true), (4, true), (5, false), (6, true)] (by kernel_rfl) (by kernel_rfl) (by kernel_rfl) (by kernel_rfl) (by rw [hD0]; exact hS) ?_
      rw [hD0]
      iterate 4 (refine seq_take _ rfl (fun KC hK => ?_); go_simp; (first | refine hK _ ?_ | refine ⟨_, fun _ _ => rfl, hK _ ?_⟩); clear hK KC)
      refine seq_take _ rfl (fun KC hK => ?_); go_simp
      refine ⟨.string X, fun a ha => by rw [row_cell ha (j := 3) rfl]; rfl, hK _ ?_⟩
      clear hK KC
      have HT := Lib.hid (text_to (cs := scRow (a, b, xs, n) v) (T := 26) bx 1 _ X D0 hXs (Lib.hid ((hB0.block _ (row_lt H10.out)).trans H10.out)) rfl)
      refine seq_come _ rfl (fun KC hK => ?_); go_simp
      refine HT.out.mono ?_; intro e w1 hp
      unfold TextPost at hp
      rw [HXD.out] at hp
      cases hv : uvalid r.s with
      | true =>
        rw [if_pos hv] at hp
        obtain ⟨rfl, rfl⟩ := hp
        have hset := rowT_set (C := kcel) (T := 78) (row := scRow) (ls := fun st => st.2.2.1) (st := (a, b, xs, n)) (st' := (a, r.s, xs, n)) 1 (.string X) ((hB0.block _ (row_lt H10.out)).trans H10.out) (H20.out.kept ((Upd.of_new (S := fun _ => False) hB0).mono fun _ _ h => h.elim)) (by rw [← HX.out]; rfl) rfl
        have hS1 : (fun w' : World => w'.heap[rb]? = some (.cells #[.int .i64 (r.num : Int), .int .i64 (r.ty : Int), .int .u64 (r.n : Int), .string X, .string ⟨r.raw.toArray⟩] 61 (0, 0))) (D0.setCell ⟨bx, 1, none⟩ (.string X)) := (hset.2.block rb (row_lt hS) (fun e => by have e : rb = bx := e; omega)).trans hS
        have HSET := Lib.hid hset
        go_simp
        refine hK.out _ _ hS1 ?_; clear hK KC hset
        (refine seq_take _ rfl (fun KC hK => ?_); go_simp; (first | refine hK _ ?_ | refine ⟨_, fun _ _ => rfl, hK _ ?_⟩); clear hK KC)
        refine seq_done ?_
        go_wp2_with fail
        go_ret
        exact takepost_ok (HSE.out.trans (if_pos hv)) (((HU0.out.mono fun _ _ h => h.elim).trans (Upd.of_new hB0)).trans (HSET.out.2.mono fun k _ h => .inl h)) HSET.out.1 (fun k hk => .inl hk)
      | false =>
        rw [if_neg (by rw [hv]; simp)] at hp
        obtain ⟨y, rfl, hec, hb⟩ := hp
        obtain ⟨T', z, rfl⟩ := hec.iface
        have hS1 : (fun w' : World => w'.heap[rb]? = some (.cells #[.int .i64 (r.num : Int), .int .i64 (r.ty : Int), .int .u64 (r.n : Int), .string X, .string ⟨r.raw.toArray⟩] 61 (0, 0))) w1 := (hb.block _ (row_lt hS)).trans hS
        go_simp
        refine hK.out _ _ hS1 ?_; clear hK KC
        (refine seq_take _ rfl (fun KC hK => ?_); go_simp; (first | refine hK _ ?_ | refine ⟨_, fun _ _ => rfl, hK _ ?_⟩); clear hK KC)
        refine seq_done ?_
        go_wp2_with fail
        go_ret
        exact takepost_no (HSE.out.trans (if_neg (by rw [hv]; simp))) (((HU0.out.mono fun _ _ h => h.elim).trans (Upd.of_new hB0)).trans (Upd.of_new hb)) hec
  by_cases h3 : r.num = 3
  · have hty : r.num = 3 ∧ r.ty = 2 := by omega
    have HSE := Lib.hid (scF_3 hty D a b xs n)
    have d1 : ((r.num : Int) == 1) = false := by rw [beq_eq_false_iff_ne]; omega
    have d2 : ((r.num : Int) == 2) = false := by rw [beq_eq_false_iff_ne]; omega
    have d3 : ((r.num : Int) == 3) = true := by rw [beq_iff_eq]; omega
    clear hty hk HKN h3
    go_enter Tryz.func35, Tryz.ntmps35
    go_wp2_with fail
    rw [HW0.out]
    go_upto_region 7 with fail
    all_goals
      obtain ⟨D0, hD0⟩ : ∃ D0, W0.drew = D0 := ⟨_, rfl⟩
      have hB0 : Below W0.heap.size W0 D0 := by rw [← hD0]; exact (Below.refl _ _).drew
      have hS : (fun w' : World => w'.heap[rb]? = some (.cells #[.int .i64 (r.num : Int), .int .i64 (r.ty : Int), .int .u64 (r.n : Int), .string X, .string ⟨r.raw.toArray⟩] 61 (0, 0))) D0 := (hB0.block _ (row_lt HR0.out)).trans HR0.out
      have hne : Nonempty {w' : World // (fun w' : World => w'.heap[rb]? = some (.cells #[.int .i64 (r.num : Int), .int .i64 (r.ty : Int), .int .u64 (r.n : Int), .string X, .string ⟨r.raw.toArray⟩] 61 (0, 0))) w'} := ⟨⟨_, hS⟩⟩
      refine wp_region_seq (S := fun w' : World => w'.heap[rb]? = some (.cells #[.int .i64 (r.num : Int), .int .i64 (r.ty : Int), .int .u64 (r.n : Int), .string X, .string ⟨r.raw.toArray⟩] 61 (0, 0))) [(0, true), (1, true), (2, true), (3, true), (4, true), (5, true), (6, false), (7, true)] (by kernel_rfl) (by kernel_rfl) (by kernel_rfl) (by kernel_rfl) (by rw [hD0]; exact hS) ?_
      rw [hD0]
      iterate 4 (refine seq_take _ rfl (fun KC hK => ?_); go_simp; (first | refine hK _ ?_ | refine ⟨_, fun _ _ => rfl, hK _ ?_⟩); clear hK KC)
      refine seq_take _ rfl (fun KC hK => ?_); go_simp
      refine ⟨.string X, fun a ha => by rw [row_cell ha (j := 3) rfl]; rfl, hK _ ?_⟩
      clear hK KC
      (refine seq_take _ rfl (fun KC hK => ?_); go_simp; (first | refine hK _ ?_ | refine ⟨_, fun _ _ => rfl, hK _ ?_⟩); clear hK KC)
      have HA := Lib.hid (addk_any bx 2 (bx + 1) (scRow (a, b, xs, n) v) 26 v xs P1 61 X (D - 1) (kread 1000001 r.s (D - 1)) D0 (enters_of Tryz.func61 (by kernel_rfl) rfl) (Lib.hid ((hB0.block _ (row_lt H10.out)).trans H10.out)) rfl ⟨by omega, by have := hB0.size; omega⟩ (Lib.hid (H20.out.kept ((Upd.of_new (S := fun _ => False) hB0).mono fun _ _ h => h.elim))) hl (Lib.hid (fun w' => by have := hU.out X (D - 1) w' hXs (by omega); rwa [HXD.out] at this)))
      refine seq_come _ rfl (fun KC hK => ?_); go_simp
      refine HA.out.mono ?_; intro e w1 hpost
      have hS1 : (fun w' : World => w'.heap[rb]? = some (.cells #[.int .i64 (r.num : Int), .int .i64 (r.ty : Int), .int .u64 (r.n : Int), .string X, .string ⟨r.raw.toArray⟩] 61 (0, 0))) w1 := (hpost.1.block rb (row_lt hS) (fun e => by
        rcases e with e | e
        · omega
        · have := (H2.out.lt rb e).2; have := HRB.out; omega)).trans hS
      cases hrd : kread 1000001 r.s (D - 1) with
      | error c =>
        rw [hrd] at hpost HSE
        obtain ⟨hu1, y, rfl, hec⟩ := hpost
        obtain ⟨T', z, rfl⟩ := hec.iface
        go_simp
        refine hK.out _ _ hS1 ?_; clear hK KC
        (refine seq_take _ rfl (fun KC hK => ?_); go_simp; (first | refine hK _ ?_ | refine ⟨_, fun _ _ => rfl, hK _ ?_⟩); clear hK KC)
        refine seq_done ?_
        go_wp2_with fail
        go_ret
        exact takepost_no HSE.out (((HU0.out.mono fun _ _ h => h.elim).trans (Upd.of_new hB0)).trans hu1) hec
      | ok x =>
        rw [hrd] at hpost HSE
        obtain ⟨rfl, hu, P', hr, hp⟩ := rowT_add (ls := fun st : List UInt8 × List UInt8 × List KV × Nat => st.2.2.1) (st := (a, b, xs, n)) (st' := (a, b, xs ++ [x], n)) hpost (fun v' => rfl) rfl
        go_simp
        refine hK.out _ _ hS1 ?_; clear hK KC
        (refine seq_take _ rfl (fun KC hK => ?_); go_simp; (first | refine hK _ ?_ | refine ⟨_, fun _ _ => rfl, hK _ ?_⟩); clear hK KC)
        refine seq_done ?_
        have HU := Lib.hid hu
        have HRL := Lib.hid hr
        have HP := Lib.hid hp
        clear hu hr hp hpost hrd
        go_wp2_with fail
        go_ret
        exact takepost_ok HSE.out (((HU0.out.mono fun _ _ h => h.elim).trans (Upd.of_new hB0)).trans HU.out) HRL.out (fun k hk => (HP.out k hk).imp id (fun h => Nat.le_trans (Nat.le_trans hsz hB0.size) h))
  have hty : r.num = 4 ∧ r.ty = 0 := by omega
  have HSE := Lib.hid (scF_4 hty D a b xs n)
  have d1 : ((r.num : Int) == 1) = false := by rw [beq_eq_false_iff_ne]; omega
  have d2 : ((r.num : Int) == 2) = false := by rw [beq_eq_false_iff_ne]; omega
  have d3 : ((r.num : Int) == 3) = false := by rw [beq_eq_false_iff_ne]; omega
  have d4 : ((r.num : Int) == 4) = true := by rw [beq_iff_eq]; omega
  have q1 := u32_wrap r.n
  have hc3 : W0.cell? ⟨bx, 3, none⟩ = some (.int .u32 (n : Int)) := row_cell H10.out (j := 3) rfl
  have hf3 : W0.frozen? ⟨bx, 3, none⟩ = false := row_thaw H10.out 3
  have HP := Lib.hid (rowT_set (C := kcel) (T := 78) (row := scRow) (ls := fun st : List UInt8 × List UInt8 × List KV × Nat => st.2.2.1) (st := (a, b, xs, n)) (st' := (a, b, xs, r.n % 4294967296)) 3 (.int .u32 ((r.n : Int) % 4294967296)) H10.out H20.out (by unfold scRow; rw [show ((r.n : Int) % 4294967296) = ((r.n % 4294967296 : Nat) : Int) by omega]; rfl) rfl)
  rw [← HW0.out] at hc3 hf3
  clear hty hk HKN
  go_enter Tryz.func35, Tryz.ntmps35
  go_wp2_with fail
  rw [HW0.out]
  go_ret
  exact takepost_ok HSE.out ((HU0.out.mono fun _ _ h => h.elim).trans (HP.out.2.mono fun k _ h => .inl h)) HP.out.1 (fun k hk => .inl hk)
set_option maxRecDepth 1000000 in
set_option maxHeartbeats 8000000 in
theorem scclo_any (hU : Hid UKey) (bx bd : Nat) (D : Int) (r : Rec) (st : List UInt8 × List UInt8 × List KV × Nat) (P : Nat → Prop) (w : World) (hD : -9223372036854775807 ≤ D ∧ D ≤ 9223372036854775807) (hk : scF.tk r = true) (hs : r.s.length ≤ 1000000) (hl : st.2.2.1.length ≤ 1000000) (h : Hid ((capT (scT bx) bd D).rel st P w)) :
    Calls Tryz.prog 33 #[recV r, .pointer (some ⟨bx, 0, none⟩), .pointer (some ⟨bd, 0, none⟩)] w (TakePost (capT (scT bx) bd D) (scF.step D) st P r w) := by
  obtain ⟨P0, hr, hn, hb, rfl⟩ := h.out
  refine Calls.mono ?_ (fun e w' hp => capT_post hp hn hb)
  have HR := Lib.hid hr
  have HB := Lib.hid hb
  clear h hr hb
  obtain ⟨X, hX⟩ : ∃ X : ByteArray, (⟨r.s.toArray⟩ : ByteArray) = X := ⟨_, rfl⟩
  have HX : Hid ((⟨r.s.toArray⟩ : ByteArray) = X) := Lib.hid hX
  obtain ⟨rb, hrb⟩ : ∃ rb, w.heap.size = rb := ⟨_, rfl⟩
  obtain ⟨W0, hW0⟩ : ∃ W0, w.alloc (.cells #[.int .i64 (r.num : Int), .int .i64 (r.ty : Int), .int .u64 (r.n : Int), .string X, .string ⟨r.raw.toArray⟩] 61) = W0 := ⟨_, rfl⟩
  have HB0 : Hid (Below w.heap.size w W0) := Lib.hid (by rw [← hW0]; exact below_new _ _)
  have HR0 : Hid (W0.heap[rb]? = some (.cells #[.int .i64 (r.num : Int), .int .i64 (r.ty : Int), .int .u64 (r.n : Int), .string X, .string ⟨r.raw.toArray⟩] 61 (0, 0))) := Lib.hid (by rw [← hW0, ← hrb]; exact heap_alloc_new _ _)
  have HW0 := Lib.hid hW0
  have HRB := Lib.hid hrb
  have q1 : IntKind.i64.wrap (D - 1) = D - 1 := IntWalk.i64_in _ (by omega)
  unfold recV
  rw [hX]
  clear hX hW0
  go_enter Tryz.func33, Tryz.ntmps33
  go_wp2_with fail
  rw [HW0.out]
  go_upto_region 1 with fail
  all_goals
    obtain ⟨D0, hD0⟩ : ∃ D0, W0.drew = D0 := ⟨_, rfl⟩
    have hB0 : Below W0.heap.size W0 D0 := by rw [← hD0]; exact (Below.refl _ _).drew
    have HBD := Lib.hid (below_step HB0.out hB0)
    have hS : R2 rb #[.int .i64 (r.num : Int), .int .i64 (r.ty : Int), .int .u64 (r.n : Int), .string X, .string ⟨r.raw.toArray⟩] 61 bd #[.int .i64 D] 3 D0 := ⟨(hB0.block _ (row_lt HR0.out)).trans HR0.out, (HBD.out.block _ (row_lt HB.out)).trans HB.out⟩
    have hne : Nonempty {w' : World // R2 rb #[.int .i64 (r.num : Int), .int .i64 (r.ty : Int), .int .u64 (r.n : Int), .string X, .string ⟨r.raw.toArray⟩] 61 bd #[.int .i64 D] 3 w'} := ⟨⟨_, hS⟩⟩
    refine wp_region_seq (S := R2 rb #[.int .i64 (r.num : Int), .int .i64 (r.ty : Int), .int .u64 (r.n : Int), .string X, .string ⟨r.raw.toArray⟩] 61 bd #[.int .i64 D] 3) [(0, true), (1, true), (2, true), (3, true), (4, true), (5, false), (6, false), (7, true)] (by kernel_rfl) (by kernel_rfl) (by kernel_rfl) (by kernel_rfl) (by rw [hD0]; exact hS) ?_
    rw [hD0]
    (refine seq_take _ rfl (fun KC hK => ?_); go_simp; (first | refine hK _ ?_ | refine ⟨_, fun _ _ => rfl, hK _ ?_⟩); clear hK KC)
    refine seq_take _ rfl (fun KC hK => ?_); go_simp
    refine ⟨.int .i64 (r.num : Int), fun a ha => by rw [row_cell ha.1 (j := 0) rfl]; rfl, hK _ ?_⟩
    clear hK KC
    refine seq_take _ rfl (fun KC hK => ?_); go_simp
    refine ⟨.agg #[.int .i64 (r.num : Int), .int .i64 (r.ty : Int), .int .u64 (r.n : Int), .string X, .string ⟨r.raw.toArray⟩], fun a ha => by (have e0 := row_cell ha.1 (j := 0) rfl; have e1 := row_cell ha.1 (j := 1) rfl; have e2 := row_cell ha.1 (j := 2) rfl; have e3 := row_cell ha.1 (j := 3) rfl; have e4 := row_cell ha.1 (j := 4) rfl); simp only [e0, e1, e2, e3, e4, Result.andThen]; rfl, hK _ ?_⟩
    clear hK KC
    refine seq_take _ rfl (fun KC hK => ?_); go_simp
    refine ⟨.int .i64 D, fun a ha => by rw [row_cell ha.2 (j := 0) rfl]; rfl, hK _ ?_⟩
    clear hK KC
    (refine seq_take _ rfl (fun KC hK => ?_); go_simp; (first | refine hK _ ?_ | refine ⟨_, fun _ _ => rfl, hK _ ?_⟩); clear hK KC)
    have HT := Lib.hid (sctake_any hU bx D r st P0 D0 hD hk hs hl (Lib.hid ((scT bx).kept _ _ _ _ HR.out (Upd.of_new HBD.out))))
    unfold recV at HT
    rw [HX.out] at HT
    refine seq_come _ rfl (fun KC hK => ?_); go_simp
    refine HT.out.mono ?_; rintro e w1 ⟨hu, hcase⟩
    have hlt := (scT bx).lt _ _ _ HR.out
    have hS1 : R2 rb #[.int .i64 (r.num : Int), .int .i64 (r.ty : Int), .int .u64 (r.n : Int), .string X, .string ⟨r.raw.toArray⟩] 61 bd #[.int .i64 D] 3 w1 := ⟨(hu.block rb (row_lt hS.1) (fun e => by have := hlt rb e; have := HRB.out; omega)).trans hS.1, (hu.block bd (row_lt hS.2) hn).trans hS.2⟩
    cases hst : scF.step D st r with
    | error c =>
      rw [hst] at hcase
      obtain ⟨y, rfl, hec⟩ := hcase
      obtain ⟨T', z, rfl⟩ := hec.iface
      have HEC := Lib.hid hec
      have HU := Lib.hid hu
      clear hec hu hlt
      go_simp
      refine hK.out _ _ hS1 ?_; clear hK KC
      refine seq_come _ rfl (fun KC hK => ?_); go_simp
      refine (in_any _ _ _ _).mono ?_; rintro e w' ⟨rfl, rfl⟩
      go_simp
      refine hK.out _ _ (hS1.below (below_new _ _)) ?_; clear hK KC
      (refine seq_take _ rfl (fun KC hK => ?_); go_simp; (first | refine hK _ ?_ | refine ⟨_, fun _ _ => rfl, hK _ ?_⟩); clear hK KC)
      refine seq_done ?_
      go_wp2_with fail
      go_ret
      exact takepost_no hst (((Upd.of_new HBD.out).trans HU.out).trans (Upd.alloc _ _ _)) (ec_field HEC.out)
    | ok st' =>
      rw [hst] at hcase
      obtain ⟨rfl, P', hr, hp⟩ := hcase
      have HRL := Lib.hid hr
      have HP := Lib.hid hp
      have HU := Lib.hid hu
      clear hr hp hu hlt
      go_simp
      refine hK.out _ _ hS1 ?_; clear hK KC
      refine seq_come _ rfl (fun KC hK => ?_); go_simp
      refine (in_nil _ _).mono ?_; rintro e w' ⟨rfl, rfl⟩
      go_simp
      refine hK.out _ _ hS1 ?_; clear hK KC
      (refine seq_take _ rfl (fun KC hK => ?_); go_simp; (first | refine hK _ ?_ | refine ⟨_, fun _ _ => rfl, hK _ ?_⟩); clear hK KC)
      refine seq_done ?_
      go_wp2_with fail
      go_ret
      exact takepost_ok hst ((Upd.of_new HBD.out).trans HU.out) HRL.out (fun k hk => (HP.out k hk).imp id (fun h => Nat.le_trans HBD.out.size h))
end Go.Proofs.YtbdbmkmebeemoaaGreatDoor
namespace Go.Proofs.YtbdbmkmebeemoaaGreatDoor
open Go.RowKit

theorem kv_len {num : Nat} {d : Int} {l : List KV} {t : Nat} (h : (listF num kvS).inv d l t) : l.length * 40 ≤ 51 * t := by
  have h1 : lsum (l.map kvS.wt) ≤ 51 * t := h.2
  have h2 := kvs_wt num l
  have h2 : lsum (l.map kvS.wt) = ksw l := h2
  have := ksw_len l
  omega
theorem tlen_le (tk : Rec → Bool) (rs : List Rec) : tlen tk rs ≤ (rs.flatMap Rec.raw).length := by have := tlen_munk tk rs; omega
set_option maxRecDepth 1000000 in
set_option maxHeartbeats 8000000 in
theorem mread_neg (FT FK : Nat) (caps : Array Value) (s : ByteArray) (d : Int) (w : World) (hd : d < 0) :
    Calls Tryz.prog 31 #[.string s, .int .i64 d, .func (.func FT) #[] #[], .func (.func FK) #[] caps] w fun e w' => ∃ v, e = .returned (.tuple #[.string ⟨#[]⟩, v]) ∧ Below w.heap.size w w' ∧ EW w' v 0 6 := by
  have d1 : decide (d < 0) = true := decide_eq_true hd
  clear hd
  go_enter Tryz.func31, Tryz.ntmps31
  go_wp2_with fail
  refine (at_any _ _ _ _).mono ?_; rintro e w' ⟨rfl, rfl⟩
  go_wp2_with fail
  go_ret2
  exact ⟨_, rfl, below_new _ _, ew_at ⟨[], rfl⟩⟩
set_option maxRecDepth 100000 in
set_option maxHeartbeats 2000000 in
theorem rstakes_any (r : Rec) (w : World) : Calls Tryz.prog 58 #[.int .i64 (r.num : Int), .int .i64 (r.ty : Int)] w fun e w' => e = .returned (.bool (rsF.tk r)) ∧ w = w' := by
  obtain ⟨num, ty, n, s, raw⟩ := r
  have hq := rsF_tk ⟨num, ty, n, s, raw⟩
  dsimp only at hq
  obtain ⟨q, hqe⟩ : ∃ q, rsF.tk ⟨num, ty, n, s, raw⟩ = q := ⟨_, rfl⟩
  rw [hqe] at hq ⊢
  clear hqe
  by_cases h1 : num = 1
  · subst h1
    have hb : Hid (q = ((ty : Int) == (2 : Int))) := Lib.hid (by rw [show ((2 : Int)) = ((2 : Nat) : Int) from rfl, ibeq, hq]; exact decide_eq_decide.2 (by omega))
    clear hq
    go_enter Tryz.func58, Tryz.ntmps58
    go_wp2_with fail
    go_ret
    exact ⟨by rw [hb.out]; rfl, rfl⟩
  by_cases h2 : num = 2
  · subst h2
    have hb : Hid (q = ((ty : Int) == (0 : Int))) := Lib.hid (by rw [show ((0 : Int)) = ((0 : Nat) : Int) from rfl, ibeq, hq]; exact decide_eq_decide.2 (by omega))
    clear hq
    go_enter Tryz.func58, Tryz.ntmps58
    go_wp2_with fail
    go_ret
    exact ⟨by rw [hb.out]; rfl, rfl⟩
  have d1 : ((num : Int) == (1 : Int)) = false := by rw [beq_eq_false_iff_ne]; omega
  have d2 : ((num : Int) == (2 : Int)) = false := by rw [beq_eq_false_iff_ne]; omega
  have hb : Hid (q = false) := Lib.hid (by rw [hq]; exact decide_eq_false (by omega))
  clear h1 h2 hq
  go_enter Tryz.func58, Tryz.ntmps58
  go_wp2_with fail
  go_ret
  exact ⟨by rw [hb.out]; rfl, rfl⟩
theorem rs_set {w : World} {g : Nat} {T : TypeId} {z0 z1 z2 : Value} (h : w.heap[g]? = some (.cells #[z0, z1, z2] T (0, 0))) (c0 c1 c2 : Value) : (((w.setCell ⟨g, 0, none⟩ c0).setCell ⟨g, 1, none⟩ c1).setCell ⟨g, 2, none⟩ c2).heap[g]? = some (.cells #[c0, c1, c2] T (0, 0)) ∧ Upd (fun k => k = g) w (((w.setCell ⟨g, 0, none⟩ c0).setCell ⟨g, 1, none⟩ c1).setCell ⟨g, 2, none⟩ c2) := by
  have r0 := row_set h 0 c0
  have r1 := row_set r0 1 c1
  have r2 := row_set r1 2 c2
  exact ⟨r2, ((Upd.set w ⟨g, 0, none⟩ c0).trans (Upd.set _ ⟨g, 1, none⟩ c1)).trans (Upd.set _ ⟨g, 2, none⟩ c2)⟩
/-- in memory, with what is unknown behind it -/
def RsRel (w : World) (P : Nat → Prop) (x : (List KV × Nat) × List UInt8) (cs : List Value) : Prop := ∃ lo lc, cs = [.slice lo x.1.1.length lc, .int .u32 (x.1.2 : Int), strV x.2] ∧ KRels w P x.1.1 lo 0
def rsCel : Cel ((List KV × Nat) × List UInt8) where
  R := RsRel
  size := 3
  len := by rintro w P x cs ⟨lo, lc, rfl, _⟩; rfl
  upd := by rintro w w' S P Q x cs hu hs hq ⟨lo, lc, h1, h2⟩; exact ⟨lo, lc, h1, KRels.upd hu hs hq _ _ _ h2⟩
  lt := by rintro w P x cs ⟨lo, lc, h1, h2⟩; exact ⟨lo, lc, h1, KRels.lt _ _ _ h2⟩
def rszero : Array Value := #[.slice none 0 0, .int .u32 0, .string ⟨#[]⟩]
def rsrd (l : List UInt8) (d : Int) : Except Nat ((List KV × Nat) × List UInt8) := mread (σ := List KV × Nat) rsF.tk (rsF.step d) rsF.z l d
theorem rs_len {d : Int} {pre : List Rec} {st : List KV × Nat} (h1 : ∀ x ∈ pre, IsRec d x) (h2 : mfold rsF.tk (rsF.step d) rsF.z pre = .ok st) (h3 : (pre.flatMap Rec.raw).length ≤ 500000) : st.1.length ≤ 1000000 := by
  have hi := mfold_tlen (d := d) 1000000 (rsF.inv d) (rsF_ok.go d) pre rsF.z st 0 h1 (rsF_ok.start d) (by have := tlen_le rsF.tk pre; omega) h2
  rw [Nat.zero_add] at hi
  have := tlen_le rsF.tk pre
  obtain ⟨t1, t2, ht, i1, _⟩ := hi
  have := kv_len i1
  omega
theorem load_rs {w : World} {g : Nat} {cs : Array Value} (hg : w.heap[g]? = some (.cells cs 45 (0, 0))) (hc : cs.size = 3) : (loadVar 45 ⟨g, 0, none⟩).run Tryz.prog w = .ok (.agg cs) w :=
  run_loadVar_row w g 45 45 cs (0, 0) _ hg Tryz.underlying45 rfl (by rw [hc]; kernel_rfl)
set_option maxRecDepth 1000000 in
set_option maxHeartbeats 8000000 in
theorem unres_any (hU : Hid UKey) (X : ByteArray) (d : Int) (w : World) (hX : X.size ≤ 500000) (hd : -9223372036854775808 ≤ d ∧ d ≤ 9223372036854775807) :
    Calls Tryz.prog 21 #[.string X, .int .i64 d] w (RdPost rsCel rszero (rsrd X.data.toList d) X.size w) := by
  have HE1 := enters_of Tryz.func58 (by kernel_rfl) rfl
  have HE2 := enters_of Tryz.func59 (by kernel_rfl) rfl
  obtain ⟨g, hg⟩ : ∃ g, w.heap.size = g := ⟨_, rfl⟩
  obtain ⟨W0, hW0⟩ : ∃ W0, ((w.alloc (.cells #[.int .i64 d] 3)).alloc (.cells #[.slice none 0 0, .int .u32 0, .string ⟨#[]⟩] 45)).alloc (.cells #[.slice none 0 0, .int .u32 0, .string ⟨#[]⟩] 45) = W0 := ⟨_, rfl⟩
  have HB0 : Hid (Below w.heap.size w W0) := Lib.hid (by rw [← hW0]; exact below_step (below_step (below_new _ _) (below_new _ _)) (below_new _ _))
  have h3 := new_three_c hg (.cells #[.int .i64 d] 3) (.cells #[.slice none 0 0, .int .u32 0, .string ⟨#[]⟩] 45) (.cells #[.slice none 0 0, .int .u32 0, .string ⟨#[]⟩] 45)
  rw [hW0] at h3
  have HR0 := Lib.hid h3.2.1
  have hcd : W0.cell? ⟨g, 0, none⟩ = some (.int .i64 d) := row_cell h3.1 (j := 0) rfl
  have htk : (capT (rsT (g + 2)) g d).rel rsF.z (fun k => (k = g + 2 ∨ ((Value.slice none 0 0).ownBlock = some k ∨ False)) ∨ k = g) W0 := ⟨_, ⟨.slice none 0 0, _, h3.2.2, LsAt.nil _ _ _ _, rfl⟩, by simp [Value.ownBlock], h3.1, rfl⟩
  have HRD : Hid (Calls Tryz.prog 31 #[.string X, .int .i64 d, .func (.func 58) #[] #[], .func (.func 59) #[] #[.pointer (some ⟨g + 2, 0, none⟩), .pointer (some ⟨g, 0, none⟩)]] W0 (ReadPost (capT (rsT (g + 2)) g d) rsF.tk (rsF.step d) rsF.z (fun k => (k = g + 2 ∨ ((Value.slice none 0 0).ownBlock = some k ∨ False)) ∨ k = g) X d W0)) := Lib.hid (by
    by_cases h0 : d < 0
    · refine (mread_neg _ _ _ X d W0 h0).mono ?_
      rintro e w' ⟨v, rfl, hb, he⟩
      refine ⟨Upd.of_new hb, ?_⟩
      have e6 : mread (σ := List KV × Nat) rsF.tk (rsF.step d) rsF.z X.data.toList d = .error 6 := by unfold mread; rw [if_pos h0]
      rw [e6]
      exact ⟨v, 0, rfl, Nat.zero_le _, he⟩
    · exact mread_any (capT (rsT (g + 2)) g d) rsF.tk (rsF.step d) 58 59 #[.pointer (some ⟨g + 2, 0, none⟩), .pointer (some ⟨g, 0, none⟩)] rsF.z X d W0 (by omega) HE1 HE2 (fun r w _ => rstakes_any r w) (fun r st P w hk hr hraw _ hpre h => rsclo_any hU (g + 2) g d r st P w (by omega) hk (by have := isrec_s hr; omega) (by
        obtain ⟨pre, h1, h2, h3⟩ := hpre
        exact rs_len h1 h2 (by omega)) (Lib.hid h)) _ htk)
  have HW0 := Lib.hid hW0
  have HGG := Lib.hid hg
  clear hW0 h3 htk HE1 HE2
  go_enter Tryz.func21, Tryz.ntmps21
  go_wp2_with fail
  rw [HW0.out]
  go_wp2_with fail
  refine HRD.out.mono ?_; intro e w1 hpost
  obtain ⟨hu, hcase⟩ := hpost
  have hu1 : Upd (fun k => k = g + 2 ∨ k = g) W0 w1 := hu.mono (fun k _ h => by
    rcases h with (h | h | h) | h
    · exact .inl h
    · simp [Value.ownBlock] at h
    · exact h.elim
    · exact .inr h)
  have HR1 : Hid (w1.heap[g + 1]? = some (.cells #[.slice none 0 0, .int .u32 0, .string ⟨#[]⟩] 45 (0, 0))) := Lib.hid ((hu1.block (g + 1) (row_lt HR0.out) (by omega)).trans HR0.out)
  have HB1 : Hid (Below w.heap.size w w1) := Lib.hid (HB0.out.trans (hu1.below (by have := HB0.out.size; omega) (fun k _ h => by omega)))
  clear hu hu1 hcd HRD
  have hz0 : w1.cell? ⟨g + 1, 0, none⟩ = some (.slice none 0 0) := row_cell HR1.out (j := 0) rfl
  have fz0 : w1.frozen? ⟨g + 1, 0, none⟩ = false := row_thaw HR1.out 0
  have hz1 : w1.cell? ⟨g + 1, 1, none⟩ = some (.int .u32 0) := row_cell HR1.out (j := 1) rfl
  have fz1 : w1.frozen? ⟨g + 1, 1, none⟩ = false := row_thaw HR1.out 1
  have hz2 : w1.cell? ⟨g + 1, 2, none⟩ = some (.string ⟨#[]⟩) := row_cell HR1.out (j := 2) rfl
  have fz2 : w1.frozen? ⟨g + 1, 2, none⟩ = false := row_thaw HR1.out 2
  cases hb : mread (σ := List KV × Nat) rsF.tk (rsF.step d) rsF.z X.data.toList d with
  | error c =>
    rw [hb] at hcase
    obtain ⟨v, q, rfl, hq, hew⟩ := hcase
    obtain ⟨T', y, rfl⟩ := hew.iface
    have HBR : Hid (rsrd X.data.toList d = .error c) := Lib.hid hb
    have HEW := Lib.hid hew
    clear hb hew
    go_wp2_with fail
    obtain ⟨hr, hua⟩ := rs_set HR1.out (.slice none 0 0) (.int .u32 0) (.string ⟨#[]⟩)
    refine body_cell2v rfl rfl (load_rs hr rfl) rfl ?_
    refine ⟨HB1.out.trans (hua.below (by have := HB1.out.size; omega) (fun k _ h => by have h : k = g + 1 := h; omega)), ?_⟩
    rw [HBR.out]
    obtain ⟨ws, he⟩ := HEW.out
    exact ⟨_, q, rfl, hq, ws, isErr_upd hua (fun k hk b m e h => by have hk : k = g + 1 := hk; subst hk; rw [HR1.out] at h; simp at h) he⟩
  | ok xu =>
    obtain ⟨st, u⟩ := xu
    rw [hb] at hcase
    obtain ⟨rfl, P', ⟨P0, ⟨v, P1, h1, h2, rfl⟩, h3, h4, rfl⟩, hp⟩ := hcase
    obtain ⟨l, n⟩ := st
    have HBR : Hid (rsrd X.data.toList d = .ok ((l, n), u)) := Lib.hid hb
    obtain ⟨css, Q, g2, g3, g4, g5, rfl⟩ := h2
    obtain ⟨lo, lc, rfl⟩ := own_slice g2
    have HRL := Lib.hid (KRel_own g2 g3 (P := fun k => g + 3 ≤ k) (fun j a1 a2 => KRel.upd (Upd.refl (fun _ => False) w1) (fun _ _ h => h) (fun k hk => (g5 k hk).2.1) _ _ (g4 j a1 a2)) (fun k hk => (g2.lt k hk).1))
    obtain ⟨U, hU⟩ : ∃ U : ByteArray, (⟨u.toArray⟩ : ByteArray) = U := ⟨_, rfl⟩
    have HUU := Lib.hid hU
    rw [hU]
    have HX1 : Hid (w1.heap[g + 2]? = some (.cells #[.slice lo l.length lc, .int .u32 (n : Int), .string ⟨#[]⟩] 45 (0, 0))) := Lib.hid (by exact h1)
    have hx0 : w1.cell? ⟨g + 2, 0, none⟩ = some (.slice lo l.length lc) := row_cell HX1.out (j := 0) rfl
    have hx1 : w1.cell? ⟨g + 2, 1, none⟩ = some (.int .u32 (n : Int)) := row_cell HX1.out (j := 1) rfl
    have hx2 : w1.cell? ⟨g + 2, 2, none⟩ = some (.string ⟨#[]⟩) := row_cell HX1.out (j := 2) rfl
    have hfx : w1.frozen? ⟨g + 2, 2, none⟩ = false := row_thaw HX1.out 2
    clear hb h1 g2 g3 g4 g5 h3 h4 hp hU
    go_wp2_with fail
    have hux := Upd.set w1 ⟨g + 2, 2, none⟩ (.string U)
    obtain ⟨hr, hua⟩ := rs_set ((hux.block (g + 1) (row_lt HR1.out) (fun e => by have e : g + 1 = g + 2 := e; omega)).trans HR1.out) (.slice lo l.length lc) (.int .u32 (n : Int)) (.string U)
    refine body_cell2v rfl rfl (load_rs hr rfl) rfl ?_
    have hub := (hux.mono (S' := fun k => k = g + 1 ∨ k = g + 2) fun k _ h => .inr h).trans (hua.mono fun k _ h => .inl h)
    refine ⟨HB1.out.trans (hub.below (by have := HB1.out.size; omega) (fun k _ h => by omega)), ?_⟩
    rw [HBR.out]
    refine ⟨[.slice lo l.length lc, .int .u32 (n : Int), .string U], rfl, lo, lc, ?_, KRels.upd hub (fun k hk e => by omega) (fun k hk => by omega) _ _ _ HRL.out⟩
    rw [← HUU.out]; rfl
set_option maxRecDepth 100000 in
set_option maxHeartbeats 2000000 in
theorem sctakes_any (r : Rec) (w : World) : Calls Tryz.prog 32 #[.int .i64 (r.num : Int), .int .i64 (r.ty : Int)] w fun e w' => e = .returned (.bool (scF.tk r)) ∧ w = w' := by
  obtain ⟨num, ty, n, s, raw⟩ := r
  have hq := scF_tk ⟨num, ty, n, s, raw⟩
  dsimp only at hq
  obtain ⟨q, hqe⟩ : ∃ q, scF.tk ⟨num, ty, n, s, raw⟩ = q := ⟨_, rfl⟩
  rw [hqe] at hq ⊢
  clear hqe
  by_cases h1 : num = 1
  · subst h1
    have hb : Hid (q = ((ty : Int) == (2 : Int))) := Lib.hid (by rw [show ((2 : Int)) = ((2 : Nat) : Int) from rfl, ibeq, hq]; exact decide_eq_decide.2 (by omega))
    clear hq
    go_enter Tryz.func32, Tryz.ntmps32
    go_wp2_with fail
    go_ret
    exact ⟨by rw [hb.out]; rfl, rfl⟩
  by_cases h2 : num = 2
  · subst h2
    have hb : Hid (q = ((ty : Int) == (2 : Int))) := Lib.hid (by rw [show ((2 : Int)) = ((2 : Nat) : Int) from rfl, ibeq, hq]; exact decide_eq_decide.2 (by omega))
    clear hq
    go_enter Tryz.func32, Tryz.ntmps32
    go_wp2_with fail
    go_ret
    exact ⟨by rw [hb.out]; rfl, rfl⟩
  by_cases h3 : num = 3
  · subst h3
    have hb : Hid (q = ((ty : Int) == (2 : Int))) := Lib.hid (by rw [show ((2 : Int)) = ((2 : Nat) : Int) from rfl, ibeq, hq]; exact decide_eq_decide.2 (by omega))
    clear hq
    go_enter Tryz.func32, Tryz.ntmps32
    go_wp2_with fail
    go_ret
    exact ⟨by rw [hb.out]; rfl, rfl⟩
  by_cases h4 : num = 4
  · subst h4
    have hb : Hid (q = ((ty : Int) == (0 : Int))) := Lib.hid (by rw [show ((0 : Int)) = ((0 : Nat) : Int) from rfl, ibeq, hq]; exact decide_eq_decide.2 (by omega))
    clear hq
    go_enter Tryz.func32, Tryz.ntmps32
    go_wp2_with fail
    go_ret
    exact ⟨by rw [hb.out]; rfl, rfl⟩
  have d1 : ((num : Int) == (1 : Int)) = false := by rw [beq_eq_false_iff_ne]; omega
  have d2 : ((num : Int) == (2 : Int)) = false := by rw [beq_eq_false_iff_ne]; omega
  have d3 : ((num : Int) == (3 : Int)) = false := by rw [beq_eq_false_iff_ne]; omega
  have d4 : ((num : Int) == (4 : Int)) = false := by rw [beq_eq_false_iff_ne]; omega
  have hb : Hid (q = false) := Lib.hid (by rw [hq]; exact decide_eq_false (by omega))
  clear h1 h2 h3 h4 hq
  go_enter Tryz.func32, Tryz.ntmps32
  go_wp2_with fail
  go_ret
  exact ⟨by rw [hb.out]; rfl, rfl⟩
theorem sc_set {w : World} {g : Nat} {T : TypeId} {z0 z1 z2 z3 z4 : Value} (h : w.heap[g]? = some (.cells #[z0, z1, z2, z3, z4] T (0, 0))) (c0 c1 c2 c3 c4 : Value) : (((((w.setCell ⟨g, 0, none⟩ c0).setCell ⟨g, 1, none⟩ c1).setCell ⟨g, 2, none⟩ c2).setCell ⟨g, 3, none⟩ c3).setCell ⟨g, 4, none⟩ c4).heap[g]? = some (.cells #[c0, c1, c2, c3, c4] T (0, 0)) ∧ Upd (fun k => k = g) w (((((w.setCell ⟨g, 0, none⟩ c0).setCell ⟨g, 1, none⟩ c1).setCell ⟨g, 2, none⟩ c2).setCell ⟨g, 3, none⟩ c3).setCell ⟨g, 4, none⟩ c4) := by
  have r0 := row_set h 0 c0
  have r1 := row_set r0 1 c1
  have r2 := row_set r1 2 c2
  have r3 := row_set r2 3 c3
  have r4 := row_set r3 4 c4
  exact ⟨r4, ((((Upd.set w ⟨g, 0, none⟩ c0).trans (Upd.set _ ⟨g, 1, none⟩ c1)).trans (Upd.set _ ⟨g, 2, none⟩ c2)).trans (Upd.set _ ⟨g, 3, none⟩ c3)).trans (Upd.set _ ⟨g, 4, none⟩ c4)⟩
/-- in memory, with what is unknown behind it -/
def ScRel (w : World) (P : Nat → Prop) (x : (List UInt8 × List UInt8 × List KV × Nat) × List UInt8) (cs : List Value) : Prop := ∃ lo lc, cs = [strV x.1.1, strV x.1.2.1, .slice lo x.1.2.2.1.length lc, .int .u32 (x.1.2.2.2 : Int), strV x.2] ∧ KRels w P x.1.2.2.1 lo 0
def scCel : Cel ((List UInt8 × List UInt8 × List KV × Nat) × List UInt8) where
  R := ScRel
  size := 5
  len := by rintro w P x cs ⟨lo, lc, rfl, _⟩; rfl
  upd := by rintro w w' S P Q x cs hu hs hq ⟨lo, lc, h1, h2⟩; exact ⟨lo, lc, h1, KRels.upd hu hs hq _ _ _ h2⟩
  lt := by rintro w P x cs ⟨lo, lc, h1, h2⟩; exact ⟨lo, lc, h1, KRels.lt _ _ _ h2⟩
def sczero : Array Value := #[.string ⟨#[]⟩, .string ⟨#[]⟩, .slice none 0 0, .int .u32 0, .string ⟨#[]⟩]
def scrd (l : List UInt8) (d : Int) : Except Nat ((List UInt8 × List UInt8 × List KV × Nat) × List UInt8) := mread (σ := List UInt8 × List UInt8 × List KV × Nat) scF.tk (scF.step d) scF.z l d
theorem sc_len {d : Int} {pre : List Rec} {st : List UInt8 × List UInt8 × List KV × Nat} (h1 : ∀ x ∈ pre, IsRec d x) (h2 : mfold scF.tk (scF.step d) scF.z pre = .ok st) (h3 : (pre.flatMap Rec.raw).length ≤ 500000) : st.2.2.1.length ≤ 1000000 := by
  have hi := mfold_tlen (d := d) 1000000 (scF.inv d) (scF_ok.go d) pre scF.z st 0 h1 (scF_ok.start d) (by have := tlen_le scF.tk pre; omega) h2
  rw [Nat.zero_add] at hi
  have := tlen_le scF.tk pre
  obtain ⟨t1, t2, ht, _, u1, u2, hu, _, v1, v2, hv, i1, _⟩ := hi
  have := kv_len i1
  omega
theorem load_sc {w : World} {g : Nat} {cs : Array Value} (hg : w.heap[g]? = some (.cells cs 26 (0, 0))) (hc : cs.size = 5) : (loadVar 26 ⟨g, 0, none⟩).run Tryz.prog w = .ok (.agg cs) w :=
  run_loadVar_row w g 26 26 cs (0, 0) _ hg Tryz.underlying26 rfl (by rw [hc]; kernel_rfl)
set_option maxRecDepth 1000000 in
set_option maxHeartbeats 8000000 in
theorem unsc_any (hU : Hid UKey) (X : ByteArray) (d : Int) (w : World) (hX : X.size ≤ 500000) (hd : -9223372036854775808 ≤ d ∧ d ≤ 9223372036854775807) :
    Calls Tryz.prog 10 #[.string X, .int .i64 d] w (RdPost scCel sczero (scrd X.data.toList d) X.size w) := by
  have HE1 := enters_of Tryz.func32 (by kernel_rfl) rfl
  have HE2 := enters_of Tryz.func33 (by kernel_rfl) rfl
  obtain ⟨g, hg⟩ : ∃ g, w.heap.size = g := ⟨_, rfl⟩
  obtain ⟨W0, hW0⟩ : ∃ W0, ((w.alloc (.cells #[.int .i64 d] 3)).alloc (.cells #[.string ⟨#[]⟩, .string ⟨#[]⟩, .slice none 0 0, .int .u32 0, .string ⟨#[]⟩] 26)).alloc (.cells #[.string ⟨#[]⟩, .string ⟨#[]⟩, .slice none 0 0, .int .u32 0, .string ⟨#[]⟩] 26) = W0 := ⟨_, rfl⟩
  have HB0 : Hid (Below w.heap.size w W0) := Lib.hid (by rw [← hW0]; exact below_step (below_step (below_new _ _) (below_new _ _)) (below_new _ _))
  have h3 := new_three_c hg (.cells #[.int .i64 d] 3) (.cells #[.string ⟨#[]⟩, .string ⟨#[]⟩, .slice none 0 0, .int .u32 0, .string ⟨#[]⟩] 26) (.cells #[.string ⟨#[]⟩, .string ⟨#[]⟩, .slice none 0 0, .int .u32 0, .string ⟨#[]⟩] 26)
  rw [hW0] at h3
  have HR0 := Lib.hid h3.2.1
  have hcd : W0.cell? ⟨g, 0, none⟩ = some (.int .i64 d) := row_cell h3.1 (j := 0) rfl
  have htk : (capT (scT (g + 2)) g d).rel scF.z (fun k => (k = g + 2 ∨ ((Value.slice none 0 0).ownBlock = some k ∨ False)) ∨ k = g) W0 := ⟨_, ⟨.slice none 0 0, _, h3.2.2, LsAt.nil _ _ _ _, rfl⟩, by simp [Value.ownBlock], h3.1, rfl⟩
  have HRD : Hid (Calls Tryz.prog 31 #[.string X, .int .i64 d, .func (.func 32) #[] #[], .func (.func 33) #[] #[.pointer (some ⟨g + 2, 0, none⟩), .pointer (some ⟨g, 0, none⟩)]] W0 (ReadPost (capT (scT (g + 2)) g d) scF.tk (scF.step d) scF.z (fun k => (k = g + 2 ∨ ((Value.slice none 0 0).ownBlock = some k ∨ False)) ∨ k = g) X d W0)) := Lib.hid (by
    by_cases h0 : d < 0
    · refine (mread_neg _ _ _ X d W0 h0).mono ?_
      rintro e w' ⟨v, rfl, hb, he⟩
      refine ⟨Upd.of_new hb, ?_⟩
      have e6 : mread (σ := List UInt8 × List UInt8 × List KV × Nat) scF.tk (scF.step d) scF.z X.data.toList d = .error 6 := by unfold mread; rw [if_pos h0]
      rw [e6]
      exact ⟨v, 0, rfl, Nat.zero_le _, he⟩
    · exact mread_any (capT (scT (g + 2)) g d) scF.tk (scF.step d) 32 33 #[.pointer (some ⟨g + 2, 0, none⟩), .pointer (some ⟨g, 0, none⟩)] scF.z X d W0 (by omega) HE1 HE2 (fun r w _ => sctakes_any r w) (fun r st P w hk hr hraw _ hpre h => scclo_any hU (g + 2) g d r st P w (by omega) hk (by have := isrec_s hr; omega) (by
        obtain ⟨pre, h1, h2, h3⟩ := hpre
        exact sc_len h1 h2 (by omega)) (Lib.hid h)) _ htk)
  have HW0 := Lib.hid hW0
  have HGG := Lib.hid hg
  clear hW0 h3 htk HE1 HE2
  go_enter Tryz.func10, Tryz.ntmps10
  go_wp2_with fail
  rw [HW0.out]
  go_wp2_with fail
  refine HRD.out.mono ?_; intro e w1 hpost
  obtain ⟨hu, hcase⟩ := hpost
  have hu1 : Upd (fun k => k = g + 2 ∨ k = g) W0 w1 := hu.mono (fun k _ h => by
    rcases h with (h | h | h) | h
    · exact .inl h
    · simp [Value.ownBlock] at h
    · exact h.elim
    · exact .inr h)
  have HR1 : Hid (w1.heap[g + 1]? = some (.cells #[.string ⟨#[]⟩, .string ⟨#[]⟩, .slice none 0 0, .int .u32 0, .string ⟨#[]⟩] 26 (0, 0))) := Lib.hid ((hu1.block (g + 1) (row_lt HR0.out) (by omega)).trans HR0.out)
  have HB1 : Hid (Below w.heap.size w w1) := Lib.hid (HB0.out.trans (hu1.below (by have := HB0.out.size; omega) (fun k _ h => by omega)))
  clear hu hu1 hcd HRD
  have hz0 : w1.cell? ⟨g + 1, 0, none⟩ = some (.string ⟨#[]⟩) := row_cell HR1.out (j := 0) rfl
  have fz0 : w1.frozen? ⟨g + 1, 0, none⟩ = false := row_thaw HR1.out 0
  have hz1 : w1.cell? ⟨g + 1, 1, none⟩ = some (.string ⟨#[]⟩) := row_cell HR1.out (j := 1) rfl
  have fz1 : w1.frozen? ⟨g + 1, 1, none⟩ = false := row_thaw HR1.out 1
  have hz2 : w1.cell? ⟨g + 1, 2, none⟩ = some (.slice none 0 0) := row_cell HR1.out (j := 2) rfl
  have fz2 : w1.frozen? ⟨g + 1, 2, none⟩ = false := row_thaw HR1.out 2
  have hz3 : w1.cell? ⟨g + 1, 3, none⟩ = some (.int .u32 0) := row_cell HR1.out (j := 3) rfl
  have fz3 : w1.frozen? ⟨g + 1, 3, none⟩ = false := row_thaw HR1.out 3
  have hz4 : w1.cell? ⟨g + 1, 4, none⟩ = some (.string ⟨#[]⟩) := row_cell HR1.out (j := 4) rfl
  have fz4 : w1.frozen? ⟨g + 1, 4, none⟩ = false := row_thaw HR1.out 4
  cases hb : mread (σ := List UInt8 × List UInt8 × List KV × Nat) scF.tk (scF.step d) scF.z X.data.toList d with
  | error c =>
    rw [hb] at hcase
    obtain ⟨v, q, rfl, hq, hew⟩ := hcase
    obtain ⟨T', y, rfl⟩ := hew.iface
    have HBR : Hid (scrd X.data.toList d = .error c) := Lib.hid hb
    have HEW := Lib.hid hew
    clear hb hew
    go_wp2_with fail
    obtain ⟨hr, hua⟩ := sc_set HR1.out (.string ⟨#[]⟩) (.string ⟨#[]⟩) (.slice none 0 0) (.int .u32 0) (.string ⟨#[]⟩)
    refine body_cell2v rfl rfl (load_sc hr rfl) rfl ?_
    refine ⟨HB1.out.trans (hua.below (by have := HB1.out.size; omega) (fun k _ h => by have h : k = g + 1 := h; omega)), ?_⟩
    rw [HBR.out]
    obtain ⟨ws, he⟩ := HEW.out
    exact ⟨_, q, rfl, hq, ws, isErr_upd hua (fun k hk b m e h => by have hk : k = g + 1 := hk; subst hk; rw [HR1.out] at h; simp at h) he⟩
  | ok xu =>
    obtain ⟨st, u⟩ := xu
    rw [hb] at hcase
    obtain ⟨rfl, P', ⟨P0, ⟨v, P1, h1, h2, rfl⟩, h3, h4, rfl⟩, hp⟩ := hcase
    obtain ⟨a, b, l, n⟩ := st
    have HBR : Hid (scrd X.data.toList d = .ok ((a, b, l, n), u)) := Lib.hid hb
    obtain ⟨css, Q, g2, g3, g4, g5, rfl⟩ := h2
    obtain ⟨lo, lc, rfl⟩ := own_slice g2
    have HRL := Lib.hid (KRel_own g2 g3 (P := fun k => g + 3 ≤ k) (fun j a1 a2 => KRel.upd (Upd.refl (fun _ => False) w1) (fun _ _ h => h) (fun k hk => (g5 k hk).2.1) _ _ (g4 j a1 a2)) (fun k hk => (g2.lt k hk).1))
    obtain ⟨U, hU⟩ : ∃ U : ByteArray, (⟨u.toArray⟩ : ByteArray) = U := ⟨_, rfl⟩
    have HUU := Lib.hid hU
    rw [hU]
    obtain ⟨A, hA⟩ : ∃ U : ByteArray, (⟨a.toArray⟩ : ByteArray) = U := ⟨_, rfl⟩
    obtain ⟨B, hB⟩ : ∃ U : ByteArray, (⟨b.toArray⟩ : ByteArray) = U := ⟨_, rfl⟩
    have HA := Lib.hid hA
    have HBB := Lib.hid hB
    unfold scRow strV at h1
    have HX1 : Hid (w1.heap[g + 2]? = some (.cells #[.string A, .string B, .slice lo l.length lc, .int .u32 (n : Int), .string ⟨#[]⟩] 26 (0, 0))) := Lib.hid (by rw [← hA, ← hB]; exact h1)
    have hx0 : w1.cell? ⟨g + 2, 0, none⟩ = some (.string A) := row_cell HX1.out (j := 0) rfl
    have hx1 : w1.cell? ⟨g + 2, 1, none⟩ = some (.string B) := row_cell HX1.out (j := 1) rfl
    have hx2 : w1.cell? ⟨g + 2, 2, none⟩ = some (.slice lo l.length lc) := row_cell HX1.out (j := 2) rfl
    have hx3 : w1.cell? ⟨g + 2, 3, none⟩ = some (.int .u32 (n : Int)) := row_cell HX1.out (j := 3) rfl
    have hx4 : w1.cell? ⟨g + 2, 4, none⟩ = some (.string ⟨#[]⟩) := row_cell HX1.out (j := 4) rfl
    have hfx : w1.frozen? ⟨g + 2, 4, none⟩ = false := row_thaw HX1.out 4
    clear hb h1 g2 g3 g4 g5 h3 h4 hp hU
    go_wp2_with fail
    have hux := Upd.set w1 ⟨g + 2, 4, none⟩ (.string U)
    obtain ⟨hr, hua⟩ := sc_set ((hux.block (g + 1) (row_lt HR1.out) (fun e => by have e : g + 1 = g + 2 := e; omega)).trans HR1.out) (.string A) (.string B) (.slice lo l.length lc) (.int .u32 (n : Int)) (.string U)
    refine body_cell2v rfl rfl (load_sc hr rfl) rfl ?_
    have hub := (hux.mono (S' := fun k => k = g + 1 ∨ k = g + 2) fun k _ h => .inr h).trans (hua.mono fun k _ h => .inl h)
    refine ⟨HB1.out.trans (hub.below (by have := HB1.out.size; omega) (fun k _ h => by omega)), ?_⟩
    rw [HBR.out]
    refine ⟨[.string A, .string B, .slice lo l.length lc, .int .u32 (n : Int), .string U], rfl, lo, lc, ?_, KRels.upd hub (fun k hk e => by omega) (fun k hk => by omega) _ _ _ HRL.out⟩
    rw [← HUU.out, ← HA.out, ← HBB.out]; rfl
/-- what a call of a reader leaves, whether it read or not -/
theorem rs_form {rd : Except Nat ((List KV × Nat) × List UInt8)} {n : Nat} {w w' : World} {e : Ending} (h : RdPost rsCel rszero rd n w e w') : Below w.heap.size w w' ∧ ∃ (lo : Option Addr) (ln lc : Nat) (m : Int) (U : ByteArray) (v : Value), e = .returned (.tuple #[.agg #[.slice lo ln lc, .int .u32 m, .string U], v]) := by
  obtain ⟨hb, h⟩ := h
  refine ⟨hb, ?_⟩
  cases rd with
  | error c => obtain ⟨v, q, rfl, _⟩ := h; exact ⟨_, _, _, _, _, _, rfl⟩
  | ok x => obtain ⟨cs, rfl, lo, lc, rfl, _⟩ := h; exact ⟨_, _, _, _, _, _, rfl⟩
theorem sc_form {rd : Except Nat ((List UInt8 × List UInt8 × List KV × Nat) × List UInt8)} {n : Nat} {w w' : World} {e : Ending} (h : RdPost scCel sczero rd n w e w') : Below w.heap.size w w' ∧ ∃ (A B : ByteArray) (lo : Option Addr) (ln lc : Nat) (m : Int) (U : ByteArray) (v : Value), e = .returned (.tuple #[.agg #[.string A, .string B, .slice lo ln lc, .int .u32 m, .string U], v]) := by
  obtain ⟨hb, h⟩ := h
  refine ⟨hb, ?_⟩
  cases rd with
  | error c => obtain ⟨v, q, rfl, _⟩ := h; exact ⟨_, _, _, _, _, _, _, _, rfl⟩
  | ok x => obtain ⟨cs, rfl, lo, lc, rfl, _⟩ := h; exact ⟨_, _, _, _, _, _, _, _, rfl⟩
end Go.Proofs.YtbdbmkmebeemoaaGreatDoor
