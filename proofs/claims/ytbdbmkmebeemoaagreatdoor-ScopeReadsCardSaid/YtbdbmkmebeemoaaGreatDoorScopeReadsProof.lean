/-
  hyglaw10.ScopeReads: for every input the law returns true, and the input stays as it was.
-/
import Derived.Test.YtbdbmkmebeemoaaGreatDoorFldB
import Derived.Test.YtbdbmkmebeemoaaGreatDoorAdd
import Derived.Test.YtbdbmkmebeemoaaGreatDoorMsgUn
import Derived.Test.YtbdbmkmebeemoaaGreatDoorIn
import Derived.Test.YtbdbmkmebeemoaaGreatDoorFx
import Derived.Test.YtbdbmkmebeemoaaGreatDoorRefMsg
import Derived.Test.YtbdbmkmebeemoaaGreatDoorValKey
import Derived.Test.YtbdbmkmebeemoaaGreatDoorMsgOpen
import Derived.Test.YtbdbmkmebeemoaaGreatDoorVoutLe
import Derived.Test.YtbdbmkmebeemoaaGreatDoorAlikeB
import Derived.Test.YtbdbmkmebeemoaaGreatDoorRefValue
import Derived.Test.YtbdbmkmebeemoaaGreatDoorDoor
import Derived.Test.YtbdbmkmebeemoaaGreatDoorRow
namespace Go.Proofs.YtbdbmkmebeemoaaGreatDoor
open Go.RowKit

/-- what a resource has: its attributes, how many were dropped -/
def rsF : Fld := (listF 1 kvS).and (var32F 2)
/-- what a scope has: name, version, attributes, how many were dropped -/
def scF : Fld := (textF 1).and ((textF 2).and ((listF 3 kvS).and (var32F 4)))
theorem apart_of {A B : Fld} (h : ∀ r, A.tk r = true → B.tk r = false) : A.Apart B := fun r hr => by rw [h r hr.1] at hr; cases hr.2
theorem scF_ok : scF.Ok := (textF_ok (by omega) (by omega)).and ((textF_ok (by omega) (by omega)).and ((listF_ok kvS_ok (by omega) (by omega)).and (var32F_ok (by omega) (by omega)) (apart_of fun r h => by
  have h : r.num = 3 ∧ r.ty = 2 := of_decide_eq_true h
  exact decide_eq_false (by omega))) (apart_of fun r h => by
  have h : r.num = 2 ∧ r.ty = 2 := of_decide_eq_true h
  show (decide _ || decide _) = false
  rw [decide_eq_false (by omega), decide_eq_false (by omega)]; rfl)) (apart_of fun r h => by
  have h : r.num = 1 ∧ r.ty = 2 := of_decide_eq_true h
  show (decide _ || (decide _ || decide _)) = false
  rw [decide_eq_false (by omega), decide_eq_false (by omega), decide_eq_false (by omega)]; rfl)
theorem rsF_tk (r : Rec) : rsF.tk r = decide (r.num = 1 ∧ r.ty = 2 ∨ r.num = 2 ∧ r.ty = 0) := by
  show (decide _ || decide _) = _
  rw [Bool.decide_or]
theorem scF_tk (r : Rec) : scF.tk r = decide ((r.num = 1 ∨ r.num = 2 ∨ r.num = 3) ∧ r.ty = 2 ∨ r.num = 4 ∧ r.ty = 0) := by
  show (decide _ || (decide _ || (decide _ || decide _))) = _
  rw [← Bool.decide_or, ← Bool.decide_or, ← Bool.decide_or]
  exact decide_eq_decide.2 (by omega)
theorem kv_ok {num : Nat} {d : Int} {l : List KV} {r : Rec} {x : KV} (e : kread 1000001 r.s (d - 1) = .ok x) : (listF num kvS).step d l r = .ok (l ++ [x]) := by
  show listStep kvS d l r = _
  unfold listStep
  rw [show kvS.rd (d - 1) r.s = .ok x from e]
  rfl
theorem kv_no {num : Nat} {d : Int} {l : List KV} {r : Rec} {c : Nat} (e : kread 1000001 r.s (d - 1) = .error c) : (listF num kvS).step d l r = .error c := by
  show listStep kvS d l r = _
  unfold listStep
  rw [show kvS.rd (d - 1) r.s = .error c from e]
  rfl
theorem text_ok {num : Nat} {d : Int} {a : List UInt8} {r : Rec} (e : uvalid r.s = true) : (textF num).step d a r = .ok r.s := if_pos e
theorem text_no {num : Nat} {d : Int} {a : List UInt8} {r : Rec} (e : uvalid r.s = false) : (textF num).step d a r = .error 5 := if_neg (by rw [e]; simp)
theorem scF_1 {r : Rec} (h : r.num = 1 ∧ r.ty = 2) (d : Int) (a b : List UInt8) (l : List KV) (n : Nat) : scF.step d (a, b, l, n) r = if uvalid r.s then .ok (r.s, b, l, n) else .error 5 := by
  cases e : uvalid r.s with
  | true => exact Fld.and_1ok (decide_eq_true h) (text_ok e)
  | false => exact Fld.and_1no (decide_eq_true h) (text_no e)
theorem scF_2 {r : Rec} (h : r.num = 2 ∧ r.ty = 2) (d : Int) (a b : List UInt8) (l : List KV) (n : Nat) : scF.step d (a, b, l, n) r = if uvalid r.s then .ok (a, r.s, l, n) else .error 5 := by
  cases e : uvalid r.s with
  | true => exact Fld.and_2ok (decide_eq_false (by omega)) (Fld.and_1ok (decide_eq_true h) (text_ok e))
  | false => exact Fld.and_2no (decide_eq_false (by omega)) (Fld.and_1no (decide_eq_true h) (text_no e))
theorem scF_3 {r : Rec} (h : r.num = 3 ∧ r.ty = 2) (d : Int) (a b : List UInt8) (l : List KV) (n : Nat) : scF.step d (a, b, l, n) r = match kread 1000001 r.s (d - 1) with
    | .error c => .error c
    | .ok x => .ok (a, b, l ++ [x], n) := by
  cases e : kread 1000001 r.s (d - 1) with
  | error c => exact Fld.and_2no (decide_eq_false (by omega)) (Fld.and_2no (decide_eq_false (by omega)) (Fld.and_1no (decide_eq_true h) (kv_no e)))
  | ok x => exact Fld.and_2ok (decide_eq_false (by omega)) (Fld.and_2ok (decide_eq_false (by omega)) (Fld.and_1ok (decide_eq_true h) (kv_ok e)))
theorem scF_4 {r : Rec} (h : r.num = 4 ∧ r.ty = 0) (d : Int) (a b : List UInt8) (l : List KV) (n : Nat) : scF.step d (a, b, l, n) r = .ok (a, b, l, r.n % 4294967296) :=
  Fld.and_2ok (decide_eq_false (by omega)) (Fld.and_2ok (decide_eq_false (by omega)) (Fld.and_2ok (decide_eq_false (by omega)) rfl))
end Go.Proofs.YtbdbmkmebeemoaaGreatDoor
namespace Go.Proofs.YtbdbmkmebeemoaaGreatDoor
open Go.RowKit

/-- a taker, with the depth that its closure holds at bd -/
def capT {σ : Type} (R : Taker σ) (bd : Nat) (D : Int) : Taker σ where
  rel st P w := ∃ P0, R.rel st P0 w ∧ ¬ P0 bd ∧ w.heap[bd]? = some (.cells #[.int .i64 D] 3 (0, 0)) ∧ P = fun k => P0 k ∨ k = bd
  lt := by
    rintro st P w ⟨P0, h1, _, h2, rfl⟩ k (hk | rfl)
    · exact R.lt _ _ _ h1 k hk
    · exact row_lt h2
  kept := by
    rintro st P w w' ⟨P0, h1, h0, h2, rfl⟩ hu
    exact ⟨P0, R.kept _ _ _ _ h1 (hu.mono fun k _ h h' => h (.inl h')), h0, (hu.block bd (row_lt h2) (fun h => h (.inr rfl))).trans h2, rfl⟩
/-- a message at block bx, with one list -/
def rowT {σ α : Type} (C : Cel α) (T T0 : TypeId) (row : σ → Value → Array Value) (ls : σ → List α) (bx : Nat) : Taker σ where
  rel st P w := ∃ v P1, w.heap[bx]? = some (.cells (row st v) T0 (0, 0)) ∧ LsAt C T (bx + 1) v (ls st) P1 w ∧ P = fun k => k = bx ∨ P1 k
  lt := by
    rintro st P w ⟨v, P1, h1, h2, rfl⟩ k (rfl | hk)
    · exact row_lt h1
    · exact (h2.lt k hk).2
  kept := by
    rintro st P w w' ⟨v, P1, h1, h2, rfl⟩ hu
    exact ⟨v, P1, (hu.block bx (row_lt h1) (fun h => h (.inl rfl))).trans h1, h2.kept (hu.mono fun k _ h h' => h (.inr h')), rfl⟩
/-- one cell of it written -/
theorem rowT_set {σ α : Type} {C : Cel α} {T T0 : TypeId} {row : σ → Value → Array Value} {ls : σ → List α} {bx : Nat} {st st' : σ} {v : Value} {P1 : Nat → Prop} {w : World} (o : Nat) (u : Value) (h1 : w.heap[bx]? = some (.cells (row st v) T0 (0, 0))) (h2 : LsAt C T (bx + 1) v (ls st) P1 w) (hr : (row st v).setIfInBounds o u = row st' v) (hl : ls st' = ls st) :
    (rowT C T T0 row ls bx).rel st' (fun k => k = bx ∨ P1 k) (w.setCell ⟨bx, o, none⟩ u) ∧ Upd (fun k => k = bx) w (w.setCell ⟨bx, o, none⟩ u) := by
  have hu := Upd.set w ⟨bx, o, none⟩ u
  refine ⟨⟨v, P1, hr ▸ row_set h1 o u, ?_, rfl⟩, hu⟩
  rw [hl]
  exact h2.kept (hu.mono fun k _ h h' => by have h : k = bx := h; have := (h2.lt k h').1; omega)
/-- one more of its list -/
theorem rowT_add {σ α : Type} {C : Cel α} {T T0 : TypeId} {row : σ → Value → Array Value} {ls : σ → List α} {bx o : Nat} {st st' : σ} {v : Value} {x : α} {P1 : Nat → Prop} {w : World} {e : Ending} {w' : World} (h : AddPost C T T0 bx o (bx + 1) (row st v) (ls st) P1 (.ok x) w e w') (hr : ∀ v', (row st v).setIfInBounds o v' = row st' v') (hl : ls st' = ls st ++ [x]) :
    e = .returned .nilIface ∧ Upd (fun k => k = bx ∨ P1 k) w w' ∧ ∃ P', (rowT C T T0 row ls bx).rel st' P' w' ∧ ∀ k, P' k → (k = bx ∨ P1 k) ∨ w.heap.size ≤ k := by
  obtain ⟨hu, he, v', P', h1, h2, h3⟩ := h
  refine ⟨he, hu, _, ⟨v', P', hr v' ▸ h1, hl ▸ h2, rfl⟩, ?_⟩
  rintro k (rfl | hk)
  · exact .inl (.inl rfl)
  · exact (h3 k hk).imp .inr id
theorem takepost_no {σ : Type} {R : Taker σ} {step : σ → Rec → Except Nat σ} {st : σ} {P : Nat → Prop} {r : Rec} {w w' : World} {v : Value} {c : Nat} (hs : step st r = .error c) (hu : Upd P w w') (he : EC w' v c) : TakePost R step st P r w (.returned v) w' := ⟨hu, by rw [hs]; exact ⟨v, rfl, he⟩⟩
theorem takepost_ok {σ : Type} {R : Taker σ} {step : σ → Rec → Except Nat σ} {st st' : σ} {P P' : Nat → Prop} {r : Rec} {w w' : World} (hs : step st r = .ok st') (hu : Upd P w w') (hr : R.rel st' P' w') (hp : ∀ k, P' k → P k ∨ w.heap.size ≤ k) : TakePost R step st P r w (.returned .nilIface) w' := ⟨hu, by rw [hs]; exact ⟨rfl, P', hr, hp⟩⟩
/-- from a taker to the one whose closure holds the depth -/
theorem capT_post {σ : Type} {R : Taker σ} {bd : Nat} {D : Int} {step : σ → Rec → Except Nat σ} {st : σ} {P0 : Nat → Prop} {r : Rec} {w : World} {e : Ending} {w' : World} (h : TakePost R step st P0 r w e w') (h0 : ¬ P0 bd) (h2 : w.heap[bd]? = some (.cells #[.int .i64 D] 3 (0, 0))) : TakePost (capT R bd D) step st (fun k => P0 k ∨ k = bd) r w e w' := by
  obtain ⟨hu, hc⟩ := h
  refine ⟨hu.mono fun k _ h => .inl h, ?_⟩
  cases hs : step st r with
  | error c => rw [hs] at hc; exact hc
  | ok st' =>
    rw [hs] at hc
    obtain ⟨he, P', h3, h4⟩ := hc
    have hb := row_lt h2
    refine ⟨he, _, ⟨P', h3, fun h => ?_, (hu.block bd hb h0).trans h2, rfl⟩, ?_⟩
    · rcases h4 bd h with h | h
      · exact h0 h
      · omega
    · rintro k (hk | rfl)
      · exact (h4 k hk).imp .inl id
      · exact .inl (.inr rfl)
/-- reading attributes, any text -/
def UKey : Prop := ∀ (Y : ByteArray) (d' : Int) (w' : World), Y.size ≤ 1000000 → -9223372036854775808 ≤ d' ∧ d' ≤ 9223372036854775807 → Calls Tryz.prog 61 #[.string Y, .int .i64 d'] w' (RdPost kcel kzero (kread 1000001 Y.data.toList d') Y.size w')
theorem u32_wrap (n : Nat) : IntKind.u32.wrap (n : Int) = ((n % 4294967296 : Nat) : Int) := by
  show ((n : Int) % 4294967296) = _
  omega
def scRow (st : List UInt8 × List UInt8 × List KV × Nat) (v : Value) : Array Value := #[strV st.1, strV st.2.1, v, .int .u32 (st.2.2.2 : Int), .string ⟨#[]⟩]
def scT (bx : Nat) : Taker (List UInt8 × List UInt8 × List KV × Nat) := rowT kcel 78 26 scRow (fun st => st.2.2.1) bx
set_option maxRecDepth 1000000 in
set_option maxHeartbeats 8000000 in
theorem sctake_any (bx : Nat) (D : Int) (r : Rec) (hU : Hid (r.num = 3 → UKey)) (st : List UInt8 × List UInt8 × List KV × Nat) (P : Nat → Prop) (w : World) (hD : -9223372036854775807 ≤ D ∧ D ≤ 9223372036854775807) (hk : scF.tk r = true) (hs : r.s.length ≤ 1000000) (hl : st.2.2.1.length ≤ 1000000) (h : Hid ((scT bx).rel st P w)) :
    Calls Tryz.prog 35 #[.pointer (some ⟨bx, 0, none⟩), recV r, .int .i64 (D - 1)] w (TakePost (scT bx) (scF.step D) st P r w) := by
  obtain ⟨v, P1, h1, h2, rfl⟩ := h.out
  obtain ⟨a, b, xs, n⟩ := st
  have H1 := Lib.hid h1
  have H2 := Lib.hid h2
  clear h h1 h2
  obtain ⟨X, hX⟩ : ∃ X : ByteArray, (⟨r.s.toArray⟩ : ByteArray) = X := ⟨_, rfl⟩
  have hXs : X.size ≤ 1000000 := by rw [← hX]; simp [ByteArray.size]; omega
  have HXD : Hid (X.data.toList = r.s) := Lib.hid (by rw [← hX])
  have HX : Hid ((⟨r.s.toArray⟩ : ByteArray) = X) := Lib.hid hX
  obtain ⟨rb, hrb⟩ : ∃ rb, w.heap.size = rb := ⟨_, rfl⟩
  obtain ⟨W0, hW0⟩ : ∃ W0, w.alloc (.cells #[.int .i64 (r.num : Int), .int .i64 (r.ty : Int), .int .u64 (r.n : Int), .string X, .string ⟨r.raw.toArray⟩] 61) = W0 := ⟨_, rfl⟩
  have HU0 : Hid (Upd (fun _ => False) w W0) := Lib.hid (by rw [← hW0]; exact Upd.alloc _ _ _)
  have HR0 : Hid (W0.heap[rb]? = some (.cells #[.int .i64 (r.num : Int), .int .i64 (r.ty : Int), .int .u64 (r.n : Int), .string X, .string ⟨r.raw.toArray⟩] 61 (0, 0))) := Lib.hid (by rw [← hW0, ← hrb]; exact heap_alloc_new _ _)
  have H10 : Hid (W0.heap[bx]? = some (.cells (scRow (a, b, xs, n) v) 26 (0, 0))) := Lib.hid ((HU0.out.block bx (row_lt H1.out) (fun h => h)).trans H1.out)
  have H20 : Hid (LsAt kcel 78 (bx + 1) v xs P1 W0) := Lib.hid (H2.out.kept (HU0.out.mono fun _ _ h => h.elim))
  have HW0 := Lib.hid hW0
  have HRB := Lib.hid hrb
  have hsz := HU0.out.size
  have hbx := row_lt H1.out
  have hn0 : W0.cell? ⟨rb, 0, none⟩ = some (.int .i64 (r.num : Int)) := row_cell HR0.out (j := 0) rfl
  rw [scF_tk, decide_eq_true_eq] at hk
  have HKN := Lib.hid hk
  unfold recV
  rw [hX]
  rw [← hW0, ← hrb] at hn0
  clear hX hW0
  by_cases h1 : r.num = 1
  · have hty : r.num = 1 ∧ r.ty = 2 := by omega
    have HSE := Lib.hid (scF_1 hty D a b xs n)
    have d1 : ((r.num : Int) == 1) = true := by rw [beq_iff_eq]; omega
    clear hty hk HKN h1
    go_enter Tryz.func35, Tryz.ntmps35
    go_wp2_with fail
    rw [HW0.out]
    go_upto_region 3 with fail
    all_goals
      obtain ⟨D0, hD0⟩ : ∃ D0, W0.drew = D0 := ⟨_, rfl⟩
      have hB0 : Below W0.heap.size W0 D0 := by rw [← hD0]; exact (Below.refl _ _).drew
      have hS : (fun w' : World => w'.heap[rb]? = some (.cells #[.int .i64 (r.num : Int), .int .i64 (r.ty : Int), .int .u64 (r.n : Int), .string X, .string ⟨r.raw.toArray⟩] 61 (0, 0))) D0 := (hB0.block _ (row_lt HR0.out)).trans HR0.out
      have hne : Nonempty {w' : World // (fun w' : World => w'.heap[rb]? = some (.cells #[.int .i64 (r.num : Int), .int .i64 (r.ty : Int), .int .u64 (r.n : Int), .string X, .string ⟨r.raw.toArray⟩] 61 (0, 0))) w'} := ⟨⟨_, hS⟩⟩
      refine wp_region_seq (S := fun w' : World => w'.heap[rb]? = some (.cells #[.int .i64 (r.num : Int), .int .i64 (r.ty : Int), .int .u64 (r.n : Int), .string X, .string ⟨r.raw.toArray⟩] 61 (0, 0))) [(0, true), (1, true), (2, true), (3, true), (4, true), (5, false), (6, true)] (by kernel_rfl) (by kernel_rfl) (by kernel_rfl) (by kernel_rfl) (by rw [hD0]; exact hS) ?_
      rw [hD0]
      iterate 4 (refine seq_take _ rfl (fun KC hK => ?_); go_simp; (first | refine hK _ ?_ | refine ⟨_, fun _ _ => rfl, hK _ ?_⟩); clear hK KC)
      refine seq_take _ rfl (fun KC hK => ?_); go_simp
      refine ⟨.string X, fun a ha => by rw [row_cell ha (j := 3) rfl]; rfl, hK _ ?_⟩
      clear hK KC
      have HT := Lib.hid (text_to (cs := scRow (a, b, xs, n) v) (T := 26) bx 0 _ X D0 hXs (Lib.hid ((hB0.block _ (row_lt H10.out)).trans H10.out)) rfl)
      refine seq_come _ rfl (fun KC hK => ?_); go_simp
      refine HT.out.mono ?_; intro e w1 hp
      unfold TextPost at hp
      rw [HXD.out] at hp
      cases hv : uvalid r.s with
      | true =>
        rw [if_pos hv] at hp
        obtain ⟨rfl, rfl⟩ := hp
        have hset := rowT_set (C := kcel) (T := 78) (row := scRow) (ls := fun st => st.2.2.1) (st := (a, b, xs, n)) (st' := (r.s, b, xs, n)) 0 (.string X) ((hB0.block _ (row_lt H10.out)).trans H10.out) (H20.out.kept ((Upd.of_new (S := fun _ => False) hB0).mono fun _ _ h => h.elim)) (by rw [← HX.out]; rfl) rfl
        have hS1 : (fun w' : World => w'.heap[rb]? = some (.cells #[.int .i64 (r.num : Int), .int .i64 (r.ty : Int), .int .u64 (r.n : Int), .string X, .string ⟨r.raw.toArray⟩] 61 (0, 0))) (D0.setCell ⟨bx, 0, none⟩ (.string X)) := (hset.2.block rb (row_lt hS) (fun e => by have e : rb = bx := e; omega)).trans hS
        have HSET := Lib.hid hset
        go_simp
        refine hK.out _ _ hS1 ?_; clear hK KC hset
        (refine seq_take _ rfl (fun KC hK => ?_); go_simp; (first | refine hK _ ?_ | refine ⟨_, fun _ _ => rfl, hK _ ?_⟩); clear hK KC)
        refine seq_done ?_
        go_wp2_with fail
        go_ret
        exact takepost_ok (HSE.out.trans (if_pos hv)) (((HU0.out.mono fun _ _ h => h.elim).trans (Upd.of_new hB0)).trans (HSET.out.2.mono fun k _ h => .inl h)) HSET.out.1 (fun k hk => .inl hk)
      | false =>
        rw [if_neg (by rw [hv]; simp)] at hp
        obtain ⟨y, rfl, hec, hb⟩ := hp
        obtain ⟨T', z, rfl⟩ := hec.iface
        have hS1 : (fun w' : World => w'.heap[rb]? = some (.cells #[.int .i64 (r.num : Int), .int .i64 (r.ty : Int), .int .u64 (r.n : Int), .string X, .string ⟨r.raw.toArray⟩] 61 (0, 0))) w1 := (hb.block _ (row_lt hS)).trans hS
        go_simp
        refine hK.out _ _ hS1 ?_; clear hK KC
        (refine seq_take _ rfl (fun KC hK => ?_); go_simp; (first | refine hK _ ?_ | refine ⟨_, fun _ _ => rfl, hK _ ?_⟩); clear hK KC)
        refine seq_done ?_
        go_wp2_with fail
        go_ret
        exact takepost_no (HSE.out.trans (if_neg (by rw [hv]; simp))) (((HU0.out.mono fun _ _ h => h.elim).trans (Upd.of_new hB0)).trans (Upd.of_new hb)) hec
  by_cases h2 : r.num = 2
  · have hty : r.num = 2 ∧ r.ty = 2 := by omega
    have HSE := Lib.hid (scF_2 hty D a b xs n)
    have d1 : ((r.num : Int) == 1) = false := by rw [beq_eq_false_iff_ne]; omega
    have d2 : ((r.num : Int) == 2) = true := by rw [beq_iff_eq]; omega
    clear hty hk HKN h2
    go_enter Tryz.func35, Tryz.ntmps35
    go_wp2_with fail
    rw [HW0.out]
    go_upto_region 5 with fail
    all_goals
      obtain ⟨D0, hD0⟩ : ∃ D0, W0.drew = D0 := ⟨_, rfl⟩
      have hB0 : Below W0.heap.size W0 D0 := by rw [← hD0]; exact (Below.refl _ _).drew
      have hS : (fun w' : World => w'.heap[rb]? = some (.cells #[.int .i64 (r.num : Int), .int .i64 (r.ty : Int), .int .u64 (r.n : Int), .string X, .string ⟨r.raw.toArray⟩] 61 (0, 0))) D0 := (hB0.block _ (row_lt HR0.out)).trans HR0.out
      have hne : Nonempty {w' : World // (fun w' : World => w'.heap[rb]? = some (.cells #[.int .i64 (r.num : Int), .int .i64 (r.ty : Int), .int .u64 (r.n : Int), .string X, .string ⟨r.raw.toArray⟩] 61 (0, 0))) w'} := ⟨⟨_, hS⟩⟩
      refine wp_region_seq (S := fun w' : World => w'.heap[rb]? = some (.cells #[.int .i64 (r.num : Int), .int .i64 (r.ty : Int), .int .u64 (r.n : Int), .string X, .string ⟨r.raw.toArray⟩] 61 (0, 0))) [(0, true), (1, true), (2, true), (3, true), (4, true), (5, false), (6, true)] (by kernel_rfl) (by kernel_rfl) (by kernel_rfl) (by kernel_rfl) (by rw [hD0]; exact hS) ?_
      rw [hD0]
      iterate 4 (refine seq_take _ rfl (fun KC hK => ?_); go_simp; (first | refine hK _ ?_ | refine ⟨_, fun _ _ => rfl, hK _ ?_⟩); clear hK KC)
      refine seq_take _ rfl (fun KC hK => ?_); go_simp
      refine ⟨.string X, fun a ha => by rw [row_cell ha (j := 3) rfl]; rfl, hK _ ?_⟩
      clear hK KC
      have HT := Lib.hid (text_to (cs := scRow (a, b, xs, n) v) (T := 26) bx 1 _ X D0 hXs (Lib.hid ((hB0.block _ (row_lt H10.out)).trans H10.out)) rfl)
      refine seq_come _ rfl (fun KC hK => ?_); go_simp
      refine HT.out.mono ?_; intro e w1 hp
      unfold TextPost at hp
      rw [HXD.out] at hp
      cases hv : uvalid r.s with
      | true =>
        rw [if_pos hv] at hp
        obtain ⟨rfl, rfl⟩ := hp
        have hset := rowT_set (C := kcel) (T := 78) (row := scRow) (ls := fun st => st.2.2.1) (st := (a, b, xs, n)) (st' := (a, r.s, xs, n)) 1 (.string X) ((hB0.block _ (row_lt H10.out)).trans H10.out) (H20.out.kept ((Upd.of_new (S := fun _ => False) hB0).mono fun _ _ h => h.elim)) (by rw [← HX.out]; rfl) rfl
        have hS1 : (fun w' : World => w'.heap[rb]? = some (.cells #[.int .i64 (r.num : Int), .int .i64 (r.ty : Int), .int .u64 (r.n : Int), .string X, .string ⟨r.raw.toArray⟩] 61 (0, 0))) (D0.setCell ⟨bx, 1, none⟩ (.string X)) := (hset.2.block rb (row_lt hS) (fun e => by have e : rb = bx := e; omega)).trans hS
        have HSET := Lib.hid hset
        go_simp
        refine hK.out _ _ hS1 ?_; clear hK KC hset
        (refine seq_take _ rfl (fun KC hK => ?_); go_simp; (first | refine hK _ ?_ | refine ⟨_, fun _ _ => rfl, hK _ ?_⟩); clear hK KC)
        refine seq_done ?_
        go_wp2_with fail
        go_ret
        exact takepost_ok (HSE.out.trans (if_pos hv)) (((HU0.out.mono fun _ _ h => h.elim).trans (Upd.of_new hB0)).trans (HSET.out.2.mono fun k _ h => .inl h)) HSET.out.1 (fun k hk => .inl hk)
      | false =>
        rw [if_neg (by rw [hv]; simp)] at hp
        obtain ⟨y, rfl, hec, hb⟩ := hp
        obtain ⟨T', z, rfl⟩ := hec.iface
        have hS1 : (fun w' : World => w'.heap[rb]? = some (.cells #[.int .i64 (r.num : Int), .int .i64 (r.ty : Int), .int .u64 (r.n : Int), .string X, .string ⟨r.raw.toArray⟩] 61 (0, 0))) w1 := (hb.block _ (row_lt hS)).trans hS
        go_simp
        refine hK.out _ _ hS1 ?_; clear hK KC
        (refine seq_take _ rfl (fun KC hK => ?_); go_simp; (first | refine hK _ ?_ | refine ⟨_, fun _ _ => rfl, hK _ ?_⟩); clear hK KC)
        refine seq_done ?_
        go_wp2_with fail
        go_ret
        exact takepost_no (HSE.out.trans (if_neg (by rw [hv]; simp))) (((HU0.out.mono fun _ _ h => h.elim).trans (Upd.of_new hB0)).trans (Upd.of_new hb)) hec
  by_cases h3 : r.num = 3
  · have hty : r.num = 3 ∧ r.ty = 2 := by omega
    have HSE := Lib.hid (scF_3 hty D a b xs n)
    have HUK := Lib.hid (hU.out hty.1)
    have d1 : ((r.num : Int) == 1) = false := by rw [beq_eq_false_iff_ne]; omega
    have d2 : ((r.num : Int) == 2) = false := by rw [beq_eq_false_iff_ne]; omega
    have d3 : ((r.num : Int) == 3) = true := by rw [beq_iff_eq]; omega
    clear hty hk HKN h3
    go_enter Tryz.func35, Tryz.ntmps35
    go_wp2_with fail
    rw [HW0.out]
    go_upto_region 7 with fail
    all_goals
      obtain ⟨D0, hD0⟩ : ∃ D0, W0.drew = D0 := ⟨_, rfl⟩
      have hB0 : Below W0.heap.size W0 D0 := by rw [← hD0]; exact (Below.refl _ _).drew
      have hS : (fun w' : World => w'.heap[rb]? = some (.cells #[.int .i64 (r.num : Int), .int .i64 (r.ty : Int), .int .u64 (r.n : Int), .string X, .string ⟨r.raw.toArray⟩] 61 (0, 0))) D0 := (hB0.block _ (row_lt HR0.out)).trans HR0.out
      have hne : Nonempty {w' : World // (fun w' : World => w'.heap[rb]? = some (.cells #[.int .i64 (r.num : Int), .int .i64 (r.ty : Int), .int .u64 (r.n : Int), .string X, .string ⟨r.raw.toArray⟩] 61 (0, 0))) w'} := ⟨⟨_, hS⟩⟩
      refine wp_region_seq (S := fun w' : World => w'.heap[rb]? = some (.cells #[.int .i64 (r.num : Int), .int .i64 (r.ty : Int), .int .u64 (r.n : Int), .string X, .string ⟨r.raw.toArray⟩] 61 (0, 0))) [(0, true), (1, true), (2, true), (3, true), (4, true), (5, true), (6, false), (7, true)] (by kernel_rfl) (by kernel_rfl) (by kernel_rfl) (by kernel_rfl) (by rw [hD0]; exact hS) ?_
      rw [hD0]
      iterate 4 (refine seq_take _ rfl (fun KC hK => ?_); go_simp; (first | refine hK _ ?_ | refine ⟨_, fun _ _ => rfl, hK _ ?_⟩); clear hK KC)
      refine seq_take _ rfl (fun KC hK => ?_); go_simp
      refine ⟨.string X, fun a ha => by rw [row_cell ha (j := 3) rfl]; rfl, hK _ ?_⟩
      clear hK KC
      (refine seq_take _ rfl (fun KC hK => ?_); go_simp; (first | refine hK _ ?_ | refine ⟨_, fun _ _ => rfl, hK _ ?_⟩); clear hK KC)
      have HA := Lib.hid (addk_any bx 2 (bx + 1) (scRow (a, b, xs, n) v) 26 v xs P1 61 X (D - 1) (kread 1000001 r.s (D - 1)) D0 (enters_of Tryz.func61 (by kernel_rfl) rfl) (Lib.hid ((hB0.block _ (row_lt H10.out)).trans H10.out)) rfl ⟨by omega, by have := hB0.size; omega⟩ (Lib.hid (H20.out.kept ((Upd.of_new (S := fun _ => False) hB0).mono fun _ _ h => h.elim))) hl (Lib.hid (fun w' => by have := HUK.out X (D - 1) w' hXs (by omega); rwa [HXD.out] at this)))
      refine seq_come _ rfl (fun KC hK => ?_); go_simp
      refine HA.out.mono ?_; intro e w1 hpost
      have hS1 : (fun w' : World => w'.heap[rb]? = some (.cells #[.int .i64 (r.num : Int), .int .i64 (r.ty : Int), .int .u64 (r.n : Int), .string X, .string ⟨r.raw.toArray⟩] 61 (0, 0))) w1 := (hpost.1.block rb (row_lt hS) (fun e => by
        rcases e with e | e
        · omega
        · have := (H2.out.lt rb e).2; have := HRB.out; omega)).trans hS
      cases hrd : kread 1000001 r.s (D - 1) with
      | error c =>
        rw [hrd] at hpost HSE
        obtain ⟨hu1, y, rfl, hec⟩ := hpost
        obtain ⟨T', z, rfl⟩ := hec.iface
        go_simp
        refine hK.out _ _ hS1 ?_; clear hK KC
        (refine seq_take _ rfl (fun KC hK => ?_); go_simp; (first | refine hK _ ?_ | refine ⟨_, fun _ _ => rfl, hK _ ?_⟩); clear hK KC)
        refine seq_done ?_
        go_wp2_with fail
        go_ret
        exact takepost_no HSE.out (((HU0.out.mono fun _ _ h => h.elim).trans (Upd.of_new hB0)).trans hu1) hec
      | ok x =>
        rw [hrd] at hpost HSE
        obtain ⟨rfl, hu, P', hr, hp⟩ := rowT_add (ls := fun st : List UInt8 × List UInt8 × List KV × Nat => st.2.2.1) (st := (a, b, xs, n)) (st' := (a, b, xs ++ [x], n)) hpost (fun v' => rfl) rfl
        go_simp
        refine hK.out _ _ hS1 ?_; clear hK KC
        (refine seq_take _ rfl (fun KC hK => ?_); go_simp; (first | refine hK _ ?_ | refine ⟨_, fun _ _ => rfl, hK _ ?_⟩); clear hK KC)
        refine seq_done ?_
        have HU := Lib.hid hu
        have HRL := Lib.hid hr
        have HP := Lib.hid hp
        clear hu hr hp hpost hrd
        go_wp2_with fail
        go_ret
        exact takepost_ok HSE.out (((HU0.out.mono fun _ _ h => h.elim).trans (Upd.of_new hB0)).trans HU.out) HRL.out (fun k hk => (HP.out k hk).imp id (fun h => Nat.le_trans (Nat.le_trans hsz hB0.size) h))
  have hty : r.num = 4 ∧ r.ty = 0 := by omega
  have HSE := Lib.hid (scF_4 hty D a b xs n)
  have d1 : ((r.num : Int) == 1) = false := by rw [beq_eq_false_iff_ne]; omega
  have d2 : ((r.num : Int) == 2) = false := by rw [beq_eq_false_iff_ne]; omega
  have d3 : ((r.num : Int) == 3) = false := by rw [beq_eq_false_iff_ne]; omega
  have d4 : ((r.num : Int) == 4) = true := by rw [beq_iff_eq]; omega
  have q1 := u32_wrap r.n
  have hc3 : W0.cell? ⟨bx, 3, none⟩ = some (.int .u32 (n : Int)) := row_cell H10.out (j := 3) rfl
  have hf3 : W0.frozen? ⟨bx, 3, none⟩ = false := row_thaw H10.out 3
  have HP := Lib.hid (rowT_set (C := kcel) (T := 78) (row := scRow) (ls := fun st : List UInt8 × List UInt8 × List KV × Nat => st.2.2.1) (st := (a, b, xs, n)) (st' := (a, b, xs, r.n % 4294967296)) 3 (.int .u32 ((r.n : Int) % 4294967296)) H10.out H20.out (by unfold scRow; rw [show ((r.n : Int) % 4294967296) = ((r.n % 4294967296 : Nat) : Int) by omega]; rfl) rfl)
  rw [← HW0.out] at hc3 hf3
  clear hty hk HKN
  go_enter Tryz.func35, Tryz.ntmps35
  go_wp2_with fail
  rw [HW0.out]
  go_ret
  exact takepost_ok HSE.out ((HU0.out.mono fun _ _ h => h.elim).trans (HP.out.2.mono fun k _ h => .inl h)) HP.out.1 (fun k hk => .inl hk)
set_option maxRecDepth 1000000 in
set_option maxHeartbeats 8000000 in
theorem scclo_any (bx bd : Nat) (D : Int) (r : Rec) (hU : Hid (r.num = 3 → UKey)) (st : List UInt8 × List UInt8 × List KV × Nat) (P : Nat → Prop) (w : World) (hD : -9223372036854775807 ≤ D ∧ D ≤ 9223372036854775807) (hk : scF.tk r = true) (hs : r.s.length ≤ 1000000) (hl : st.2.2.1.length ≤ 1000000) (h : Hid ((capT (scT bx) bd D).rel st P w)) :
    Calls Tryz.prog 33 #[recV r, .pointer (some ⟨bx, 0, none⟩), .pointer (some ⟨bd, 0, none⟩)] w (TakePost (capT (scT bx) bd D) (scF.step D) st P r w) := by
  obtain ⟨P0, hr, hn, hb, rfl⟩ := h.out
  refine Calls.mono ?_ (fun e w' hp => capT_post hp hn hb)
  have HR := Lib.hid hr
  have HB := Lib.hid hb
  clear h hr hb
  obtain ⟨X, hX⟩ : ∃ X : ByteArray, (⟨r.s.toArray⟩ : ByteArray) = X := ⟨_, rfl⟩
  have HX : Hid ((⟨r.s.toArray⟩ : ByteArray) = X) := Lib.hid hX
  obtain ⟨rb, hrb⟩ : ∃ rb, w.heap.size = rb := ⟨_, rfl⟩
  obtain ⟨W0, hW0⟩ : ∃ W0, w.alloc (.cells #[.int .i64 (r.num : Int), .int .i64 (r.ty : Int), .int .u64 (r.n : Int), .string X, .string ⟨r.raw.toArray⟩] 61) = W0 := ⟨_, rfl⟩
  have HB0 : Hid (Below w.heap.size w W0) := Lib.hid (by rw [← hW0]; exact below_new _ _)
  have HR0 : Hid (W0.heap[rb]? = some (.cells #[.int .i64 (r.num : Int), .int .i64 (r.ty : Int), .int .u64 (r.n : Int), .string X, .string ⟨r.raw.toArray⟩] 61 (0, 0))) := Lib.hid (by rw [← hW0, ← hrb]; exact heap_alloc_new _ _)
  have HW0 := Lib.hid hW0
  have HRB := Lib.hid hrb
  have q1 : IntKind.i64.wrap (D - 1) = D - 1 := IntWalk.i64_in _ (by omega)
  unfold recV
  rw [hX]
  clear hX hW0
  go_enter Tryz.func33, Tryz.ntmps33
  go_wp2_with fail
  rw [HW0.out]
  go_upto_region 1 with fail
  all_goals
    obtain ⟨D0, hD0⟩ : ∃ D0, W0.drew = D0 := ⟨_, rfl⟩
    have hB0 : Below W0.heap.size W0 D0 := by rw [← hD0]; exact (Below.refl _ _).drew
    have HBD := Lib.hid (below_step HB0.out hB0)
    have hS : R2 rb #[.int .i64 (r.num : Int), .int .i64 (r.ty : Int), .int .u64 (r.n : Int), .string X, .string ⟨r.raw.toArray⟩] 61 bd #[.int .i64 D] 3 D0 := ⟨(hB0.block _ (row_lt HR0.out)).trans HR0.out, (HBD.out.block _ (row_lt HB.out)).trans HB.out⟩
    have hne : Nonempty {w' : World // R2 rb #[.int .i64 (r.num : Int), .int .i64 (r.ty : Int), .int .u64 (r.n : Int), .string X, .string ⟨r.raw.toArray⟩] 61 bd #[.int .i64 D] 3 w'} := ⟨⟨_, hS⟩⟩
    refine wp_region_seq (S := R2 rb #[.int .i64 (r.num : Int), .int .i64 (r.ty : Int), .int .u64 (r.n : Int), .string X, .string ⟨r.raw.toArray⟩] 61 bd #[.int .i64 D] 3) [(0, true), (1, true), (2, true), (3, true), (4, true), (5, false), (6, false), (7, true)] (by kernel_rfl) (by kernel_rfl) (by kernel_rfl) (by kernel_rfl) (by rw [hD0]; exact hS) ?_
    rw [hD0]
    (refine seq_take _ rfl (fun KC hK => ?_); go_simp; (first | refine hK _ ?_ | refine ⟨_, fun _ _ => rfl, hK _ ?_⟩); clear hK KC)
    refine seq_take _ rfl (fun KC hK => ?_); go_simp
    refine ⟨.int .i64 (r.num : Int), fun a ha => by rw [row_cell ha.1 (j := 0) rfl]; rfl, hK _ ?_⟩
    clear hK KC
    refine seq_take _ rfl (fun KC hK => ?_); go_simp
    refine ⟨.agg #[.int .i64 (r.num : Int), .int .i64 (r.ty : Int), .int .u64 (r.n : Int), .string X, .string ⟨r.raw.toArray⟩], fun a ha => by (have e0 := row_cell ha.1 (j := 0) rfl; have e1 := row_cell ha.1 (j := 1) rfl; have e2 := row_cell ha.1 (j := 2) rfl; have e3 := row_cell ha.1 (j := 3) rfl; have e4 := row_cell ha.1 (j := 4) rfl); simp only [e0, e1, e2, e3, e4, Result.andThen]; rfl, hK _ ?_⟩
    clear hK KC
    refine seq_take _ rfl (fun KC hK => ?_); go_simp
    refine ⟨.int .i64 D, fun a ha => by rw [row_cell ha.2 (j := 0) rfl]; rfl, hK _ ?_⟩
    clear hK KC
    (refine seq_take _ rfl (fun KC hK => ?_); go_simp; (first | refine hK _ ?_ | refine ⟨_, fun _ _ => rfl, hK _ ?_⟩); clear hK KC)
    have HT := Lib.hid (sctake_any bx D r hU st P0 D0 hD hk hs hl (Lib.hid ((scT bx).kept _ _ _ _ HR.out (Upd.of_new HBD.out))))
    unfold recV at HT
    rw [HX.out] at HT
    refine seq_come _ rfl (fun KC hK => ?_); go_simp
    refine HT.out.mono ?_; rintro e w1 ⟨hu, hcase⟩
    have hlt := (scT bx).lt _ _ _ HR.out
    have hS1 : R2 rb #[.int .i64 (r.num : Int), .int .i64 (r.ty : Int), .int .u64 (r.n : Int), .string X, .string ⟨r.raw.toArray⟩] 61 bd #[.int .i64 D] 3 w1 := ⟨(hu.block rb (row_lt hS.1) (fun e => by have := hlt rb e; have := HRB.out; omega)).trans hS.1, (hu.block bd (row_lt hS.2) hn).trans hS.2⟩
    cases hst : scF.step D st r with
    | error c =>
      rw [hst] at hcase
      obtain ⟨y, rfl, hec⟩ := hcase
      obtain ⟨T', z, rfl⟩ := hec.iface
      have HEC := Lib.hid hec
      have HU := Lib.hid hu
      clear hec hu hlt
      go_simp
      refine hK.out _ _ hS1 ?_; clear hK KC
      refine seq_come _ rfl (fun KC hK => ?_); go_simp
      refine (in_any _ _ _ _).mono ?_; rintro e w' ⟨rfl, rfl⟩
      go_simp
      refine hK.out _ _ (hS1.below (below_new _ _)) ?_; clear hK KC
      (refine seq_take _ rfl (fun KC hK => ?_); go_simp; (first | refine hK _ ?_ | refine ⟨_, fun _ _ => rfl, hK _ ?_⟩); clear hK KC)
      refine seq_done ?_
      go_wp2_with fail
      go_ret
      exact takepost_no hst (((Upd.of_new HBD.out).trans HU.out).trans (Upd.alloc _ _ _)) (ec_field HEC.out)
    | ok st' =>
      rw [hst] at hcase
      obtain ⟨rfl, P', hr, hp⟩ := hcase
      have HRL := Lib.hid hr
      have HP := Lib.hid hp
      have HU := Lib.hid hu
      clear hr hp hu hlt
      go_simp
      refine hK.out _ _ hS1 ?_; clear hK KC
      refine seq_come _ rfl (fun KC hK => ?_); go_simp
      refine (in_nil _ _).mono ?_; rintro e w' ⟨rfl, rfl⟩
      go_simp
      refine hK.out _ _ hS1 ?_; clear hK KC
      (refine seq_take _ rfl (fun KC hK => ?_); go_simp; (first | refine hK _ ?_ | refine ⟨_, fun _ _ => rfl, hK _ ?_⟩); clear hK KC)
      refine seq_done ?_
      go_wp2_with fail
      go_ret
      exact takepost_ok hst ((Upd.of_new HBD.out).trans HU.out) HRL.out (fun k hk => (HP.out k hk).imp id (fun h => Nat.le_trans HBD.out.size h))
end Go.Proofs.YtbdbmkmebeemoaaGreatDoor
namespace Go.Proofs.YtbdbmkmebeemoaaGreatDoor
open Go.RowKit

theorem kv_len {num : Nat} {d : Int} {l : List KV} {t : Nat} (h : (listF num kvS).inv d l t) : l.length * 40 ≤ 51 * t := by
  have h1 : lsum (l.map kvS.wt) ≤ 51 * t := h.2
  have h2 := kvs_wt num l
  have h2 : lsum (l.map kvS.wt) = ksw l := h2
  have := ksw_len l
  omega
theorem tlen_le (tk : Rec → Bool) (rs : List Rec) : tlen tk rs ≤ (rs.flatMap Rec.raw).length := by have := tlen_munk tk rs; omega
set_option maxRecDepth 1000000 in
set_option maxHeartbeats 8000000 in
theorem mread_neg (FT FK : Nat) (caps : Array Value) (s : ByteArray) (d : Int) (w : World) (hd : d < 0) :
    Calls Tryz.prog 31 #[.string s, .int .i64 d, .func (.func FT) #[] #[], .func (.func FK) #[] caps] w fun e w' => ∃ v, e = .returned (.tuple #[.string ⟨#[]⟩, v]) ∧ Below w.heap.size w w' ∧ EW w' v 0 6 := by
  have d1 : decide (d < 0) = true := decide_eq_true hd
  clear hd
  go_enter Tryz.func31, Tryz.ntmps31
  go_wp2_with fail
  refine (at_any _ _ _ _).mono ?_; rintro e w' ⟨rfl, rfl⟩
  go_wp2_with fail
  go_ret2
  exact ⟨_, rfl, below_new _ _, ew_at ⟨[], rfl⟩⟩
set_option maxRecDepth 100000 in
set_option maxHeartbeats 2000000 in
theorem rstakes_any (r : Rec) (w : World) : Calls Tryz.prog 58 #[.int .i64 (r.num : Int), .int .i64 (r.ty : Int)] w fun e w' => e = .returned (.bool (rsF.tk r)) ∧ w = w' := by
  obtain ⟨num, ty, n, s, raw⟩ := r
  have hq := rsF_tk ⟨num, ty, n, s, raw⟩
  dsimp only at hq
  obtain ⟨q, hqe⟩ : ∃ q, rsF.tk ⟨num, ty, n, s, raw⟩ = q := ⟨_, rfl⟩
  rw [hqe] at hq ⊢
  clear hqe
  by_cases h1 : num = 1
  · subst h1
    have hb : Hid (q = ((ty : Int) == (2 : Int))) := Lib.hid (by rw [show ((2 : Int)) = ((2 : Nat) : Int) from rfl, ibeq, hq]; exact decide_eq_decide.2 (by omega))
    clear hq
    go_enter Tryz.func58, Tryz.ntmps58
    go_wp2_with fail
    go_ret
    exact ⟨by rw [hb.out]; rfl, rfl⟩
  by_cases h2 : num = 2
  · subst h2
    have hb : Hid (q = ((ty : Int) == (0 : Int))) := Lib.hid (by rw [show ((0 : Int)) = ((0 : Nat) : Int) from rfl, ibeq, hq]; exact decide_eq_decide.2 (by omega))
    clear hq
    go_enter Tryz.func58, Tryz.ntmps58
    go_wp2_with fail
    go_ret
    exact ⟨by rw [hb.out]; rfl, rfl⟩
  have d1 : ((num : Int) == (1 : Int)) = false := by rw [beq_eq_false_iff_ne]; omega
  have d2 : ((num : Int) == (2 : Int)) = false := by rw [beq_eq_false_iff_ne]; omega
  have hb : Hid (q = false) := Lib.hid (by rw [hq]; exact decide_eq_false (by omega))
  clear h1 h2 hq
  go_enter Tryz.func58, Tryz.ntmps58
  go_wp2_with fail
  go_ret
  exact ⟨by rw [hb.out]; rfl, rfl⟩
/-- in memory, with what is unknown behind it -/
def RsRel (w : World) (P : Nat → Prop) (x : (List KV × Nat) × List UInt8) (cs : List Value) : Prop := ∃ lo lc, cs = [.slice lo x.1.1.length lc, .int .u32 (x.1.2 : Int), strV x.2] ∧ KRels w P x.1.1 lo 0
set_option maxRecDepth 100000 in
set_option maxHeartbeats 2000000 in
theorem sctakes_any (r : Rec) (w : World) : Calls Tryz.prog 32 #[.int .i64 (r.num : Int), .int .i64 (r.ty : Int)] w fun e w' => e = .returned (.bool (scF.tk r)) ∧ w = w' := by
  obtain ⟨num, ty, n, s, raw⟩ := r
  have hq := scF_tk ⟨num, ty, n, s, raw⟩
  dsimp only at hq
  obtain ⟨q, hqe⟩ : ∃ q, scF.tk ⟨num, ty, n, s, raw⟩ = q := ⟨_, rfl⟩
  rw [hqe] at hq ⊢
  clear hqe
  by_cases h1 : num = 1
  · subst h1
    have hb : Hid (q = ((ty : Int) == (2 : Int))) := Lib.hid (by rw [show ((2 : Int)) = ((2 : Nat) : Int) from rfl, ibeq, hq]; exact decide_eq_decide.2 (by omega))
    clear hq
    go_enter Tryz.func32, Tryz.ntmps32
    go_wp2_with fail
    go_ret
    exact ⟨by rw [hb.out]; rfl, rfl⟩
  by_cases h2 : num = 2
  · subst h2
    have hb : Hid (q = ((ty : Int) == (2 : Int))) := Lib.hid (by rw [show ((2 : Int)) = ((2 : Nat) : Int) from rfl, ibeq, hq]; exact decide_eq_decide.2 (by omega))
    clear hq
    go_enter Tryz.func32, Tryz.ntmps32
    go_wp2_with fail
    go_ret
    exact ⟨by rw [hb.out]; rfl, rfl⟩
  by_cases h3 : num = 3
  · subst h3
    have hb : Hid (q = ((ty : Int) == (2 : Int))) := Lib.hid (by rw [show ((2 : Int)) = ((2 : Nat) : Int) from rfl, ibeq, hq]; exact decide_eq_decide.2 (by omega))
    clear hq
    go_enter Tryz.func32, Tryz.ntmps32
    go_wp2_with fail
    go_ret
    exact ⟨by rw [hb.out]; rfl, rfl⟩
  by_cases h4 : num = 4
  · subst h4
    have hb : Hid (q = ((ty : Int) == (0 : Int))) := Lib.hid (by rw [show ((0 : Int)) = ((0 : Nat) : Int) from rfl, ibeq, hq]; exact decide_eq_decide.2 (by omega))
    clear hq
    go_enter Tryz.func32, Tryz.ntmps32
    go_wp2_with fail
    go_ret
    exact ⟨by rw [hb.out]; rfl, rfl⟩
  have d1 : ((num : Int) == (1 : Int)) = false := by rw [beq_eq_false_iff_ne]; omega
  have d2 : ((num : Int) == (2 : Int)) = false := by rw [beq_eq_false_iff_ne]; omega
  have d3 : ((num : Int) == (3 : Int)) = false := by rw [beq_eq_false_iff_ne]; omega
  have d4 : ((num : Int) == (4 : Int)) = false := by rw [beq_eq_false_iff_ne]; omega
  have hb : Hid (q = false) := Lib.hid (by rw [hq]; exact decide_eq_false (by omega))
  clear h1 h2 h3 h4 hq
  go_enter Tryz.func32, Tryz.ntmps32
  go_wp2_with fail
  go_ret
  exact ⟨by rw [hb.out]; rfl, rfl⟩
theorem sc_set {w : World} {g : Nat} {T : TypeId} {z0 z1 z2 z3 z4 : Value} (h : w.heap[g]? = some (.cells #[z0, z1, z2, z3, z4] T (0, 0))) (c0 c1 c2 c3 c4 : Value) : (((((w.setCell ⟨g, 0, none⟩ c0).setCell ⟨g, 1, none⟩ c1).setCell ⟨g, 2, none⟩ c2).setCell ⟨g, 3, none⟩ c3).setCell ⟨g, 4, none⟩ c4).heap[g]? = some (.cells #[c0, c1, c2, c3, c4] T (0, 0)) ∧ Upd (fun k => k = g) w (((((w.setCell ⟨g, 0, none⟩ c0).setCell ⟨g, 1, none⟩ c1).setCell ⟨g, 2, none⟩ c2).setCell ⟨g, 3, none⟩ c3).setCell ⟨g, 4, none⟩ c4) := by
  have r0 := row_set h 0 c0
  have r1 := row_set r0 1 c1
  have r2 := row_set r1 2 c2
  have r3 := row_set r2 3 c3
  have r4 := row_set r3 4 c4
  exact ⟨r4, ((((Upd.set w ⟨g, 0, none⟩ c0).trans (Upd.set _ ⟨g, 1, none⟩ c1)).trans (Upd.set _ ⟨g, 2, none⟩ c2)).trans (Upd.set _ ⟨g, 3, none⟩ c3)).trans (Upd.set _ ⟨g, 4, none⟩ c4)⟩
/-- in memory, with what is unknown behind it -/
def ScRel (w : World) (P : Nat → Prop) (x : (List UInt8 × List UInt8 × List KV × Nat) × List UInt8) (cs : List Value) : Prop := ∃ lo lc, cs = [strV x.1.1, strV x.1.2.1, .slice lo x.1.2.2.1.length lc, .int .u32 (x.1.2.2.2 : Int), strV x.2] ∧ KRels w P x.1.2.2.1 lo 0
def scCel : Cel ((List UInt8 × List UInt8 × List KV × Nat) × List UInt8) where
  R := ScRel
  size := 5
  len := by rintro w P x cs ⟨lo, lc, rfl, _⟩; rfl
  upd := by rintro w w' S P Q x cs hu hs hq ⟨lo, lc, h1, h2⟩; exact ⟨lo, lc, h1, KRels.upd hu hs hq _ _ _ h2⟩
  lt := by rintro w P x cs ⟨lo, lc, h1, h2⟩; exact ⟨lo, lc, h1, KRels.lt _ _ _ h2⟩
def sczero : Array Value := #[.string ⟨#[]⟩, .string ⟨#[]⟩, .slice none 0 0, .int .u32 0, .string ⟨#[]⟩]
def scrd (l : List UInt8) (d : Int) : Except Nat ((List UInt8 × List UInt8 × List KV × Nat) × List UInt8) := mread (σ := List UInt8 × List UInt8 × List KV × Nat) scF.tk (scF.step d) scF.z l d
theorem sc_len {d : Int} {pre : List Rec} {st : List UInt8 × List UInt8 × List KV × Nat} (h1 : ∀ x ∈ pre, IsRec d x) (h2 : mfold scF.tk (scF.step d) scF.z pre = .ok st) (h3 : (pre.flatMap Rec.raw).length ≤ 500000) : st.2.2.1.length ≤ 1000000 := by
  have hi := mfold_tlen (d := d) 1000000 (scF.inv d) (scF_ok.go d) pre scF.z st 0 h1 (scF_ok.start d) (by have := tlen_le scF.tk pre; omega) h2
  rw [Nat.zero_add] at hi
  have := tlen_le scF.tk pre
  obtain ⟨t1, t2, ht, _, u1, u2, hu, _, v1, v2, hv, i1, _⟩ := hi
  have := kv_len i1
  omega
theorem load_sc {w : World} {g : Nat} {cs : Array Value} (hg : w.heap[g]? = some (.cells cs 26 (0, 0))) (hc : cs.size = 5) : (loadVar 26 ⟨g, 0, none⟩).run Tryz.prog w = .ok (.agg cs) w :=
  run_loadVar_row w g 26 26 cs (0, 0) _ hg Tryz.underlying26 rfl (by rw [hc]; kernel_rfl)
set_option maxRecDepth 1000000 in
set_option maxHeartbeats 8000000 in
theorem unsc_if (X : ByteArray) (d : Int) (hU : Hid (∀ r : Rec, (∀ rs, wall X.data.toList d = .ok rs → r ∈ rs) → r.num = 3 → UKey)) (w : World) (hX : X.size ≤ 500000) (hd : -9223372036854775808 ≤ d ∧ d ≤ 9223372036854775807) :
    Calls Tryz.prog 10 #[.string X, .int .i64 d] w (RdPost scCel sczero (scrd X.data.toList d) X.size w) := by
  have HE1 := enters_of Tryz.func32 (by kernel_rfl) rfl
  have HE2 := enters_of Tryz.func33 (by kernel_rfl) rfl
  obtain ⟨g, hg⟩ : ∃ g, w.heap.size = g := ⟨_, rfl⟩
  obtain ⟨W0, hW0⟩ : ∃ W0, ((w.alloc (.cells #[.int .i64 d] 3)).alloc (.cells #[.string ⟨#[]⟩, .string ⟨#[]⟩, .slice none 0 0, .int .u32 0, .string ⟨#[]⟩] 26)).alloc (.cells #[.string ⟨#[]⟩, .string ⟨#[]⟩, .slice none 0 0, .int .u32 0, .string ⟨#[]⟩] 26) = W0 := ⟨_, rfl⟩
  have HB0 : Hid (Below w.heap.size w W0) := Lib.hid (by rw [← hW0]; exact below_step (below_step (below_new _ _) (below_new _ _)) (below_new _ _))
  have h3 := new_three_c hg (.cells #[.int .i64 d] 3) (.cells #[.string ⟨#[]⟩, .string ⟨#[]⟩, .slice none 0 0, .int .u32 0, .string ⟨#[]⟩] 26) (.cells #[.string ⟨#[]⟩, .string ⟨#[]⟩, .slice none 0 0, .int .u32 0, .string ⟨#[]⟩] 26)
  rw [hW0] at h3
  have HR0 := Lib.hid h3.2.1
  have hcd : W0.cell? ⟨g, 0, none⟩ = some (.int .i64 d) := row_cell h3.1 (j := 0) rfl
  have htk : (capT (scT (g + 2)) g d).rel scF.z (fun k => (k = g + 2 ∨ ((Value.slice none 0 0).ownBlock = some k ∨ False)) ∨ k = g) W0 := ⟨_, ⟨.slice none 0 0, _, h3.2.2, LsAt.nil _ _ _ _, rfl⟩, by simp [Value.ownBlock], h3.1, rfl⟩
  have HRD : Hid (Calls Tryz.prog 31 #[.string X, .int .i64 d, .func (.func 32) #[] #[], .func (.func 33) #[] #[.pointer (some ⟨g + 2, 0, none⟩), .pointer (some ⟨g, 0, none⟩)]] W0 (ReadPost (capT (scT (g + 2)) g d) scF.tk (scF.step d) scF.z (fun k => (k = g + 2 ∨ ((Value.slice none 0 0).ownBlock = some k ∨ False)) ∨ k = g) X d W0)) := Lib.hid (by
    by_cases h0 : d < 0
    · refine (mread_neg _ _ _ X d W0 h0).mono ?_
      rintro e w' ⟨v, rfl, hb, he⟩
      refine ⟨Upd.of_new hb, ?_⟩
      have e6 : mread (σ := List UInt8 × List UInt8 × List KV × Nat) scF.tk (scF.step d) scF.z X.data.toList d = .error 6 := by unfold mread; rw [if_pos h0]
      rw [e6]
      exact ⟨v, 0, rfl, Nat.zero_le _, he⟩
    · exact mread_any (capT (scT (g + 2)) g d) scF.tk (scF.step d) 32 33 #[.pointer (some ⟨g + 2, 0, none⟩), .pointer (some ⟨g, 0, none⟩)] scF.z X d W0 (by omega) HE1 HE2 (fun r w _ => sctakes_any r w) (fun r st P w hk hr hraw hmem hpre h => scclo_any (g + 2) g d r (Lib.hid (fun h1 => hU.out r hmem h1)) st P w (by omega) hk (by have := isrec_s hr; omega) (by
        obtain ⟨pre, h1, h2, h3⟩ := hpre
        exact sc_len h1 h2 (by omega)) (Lib.hid h)) _ htk)
  have HW0 := Lib.hid hW0
  have HGG := Lib.hid hg
  clear hW0 h3 htk HE1 HE2
  go_enter Tryz.func10, Tryz.ntmps10
  go_wp2_with fail
  rw [HW0.out]
  go_wp2_with fail
  refine HRD.out.mono ?_; intro e w1 hpost
  obtain ⟨hu, hcase⟩ := hpost
  have hu1 : Upd (fun k => k = g + 2 ∨ k = g) W0 w1 := hu.mono (fun k _ h => by
    rcases h with (h | h | h) | h
    · exact .inl h
    · simp [Value.ownBlock] at h
    · exact h.elim
    · exact .inr h)
  have HR1 : Hid (w1.heap[g + 1]? = some (.cells #[.string ⟨#[]⟩, .string ⟨#[]⟩, .slice none 0 0, .int .u32 0, .string ⟨#[]⟩] 26 (0, 0))) := Lib.hid ((hu1.block (g + 1) (row_lt HR0.out) (by omega)).trans HR0.out)
  have HB1 : Hid (Below w.heap.size w w1) := Lib.hid (HB0.out.trans (hu1.below (by have := HB0.out.size; omega) (fun k _ h => by omega)))
  clear hu hu1 hcd HRD
  have hz0 : w1.cell? ⟨g + 1, 0, none⟩ = some (.string ⟨#[]⟩) := row_cell HR1.out (j := 0) rfl
  have fz0 : w1.frozen? ⟨g + 1, 0, none⟩ = false := row_thaw HR1.out 0
  have hz1 : w1.cell? ⟨g + 1, 1, none⟩ = some (.string ⟨#[]⟩) := row_cell HR1.out (j := 1) rfl
  have fz1 : w1.frozen? ⟨g + 1, 1, none⟩ = false := row_thaw HR1.out 1
  have hz2 : w1.cell? ⟨g + 1, 2, none⟩ = some (.slice none 0 0) := row_cell HR1.out (j := 2) rfl
  have fz2 : w1.frozen? ⟨g + 1, 2, none⟩ = false := row_thaw HR1.out 2
  have hz3 : w1.cell? ⟨g + 1, 3, none⟩ = some (.int .u32 0) := row_cell HR1.out (j := 3) rfl
  have fz3 : w1.frozen? ⟨g + 1, 3, none⟩ = false := row_thaw HR1.out 3
  have hz4 : w1.cell? ⟨g + 1, 4, none⟩ = some (.string ⟨#[]⟩) := row_cell HR1.out (j := 4) rfl
  have fz4 : w1.frozen? ⟨g + 1, 4, none⟩ = false := row_thaw HR1.out 4
  cases hb : mread (σ := List UInt8 × List UInt8 × List KV × Nat) scF.tk (scF.step d) scF.z X.data.toList d with
  | error c =>
    rw [hb] at hcase
    obtain ⟨v, q, rfl, hq, hew⟩ := hcase
    obtain ⟨T', y, rfl⟩ := hew.iface
    have HBR : Hid (scrd X.data.toList d = .error c) := Lib.hid hb
    have HEW := Lib.hid hew
    clear hb hew
    go_wp2_with fail
    obtain ⟨hr, hua⟩ := sc_set HR1.out (.string ⟨#[]⟩) (.string ⟨#[]⟩) (.slice none 0 0) (.int .u32 0) (.string ⟨#[]⟩)
    refine body_cell2v rfl rfl (load_sc hr rfl) rfl ?_
    refine ⟨HB1.out.trans (hua.below (by have := HB1.out.size; omega) (fun k _ h => by have h : k = g + 1 := h; omega)), ?_⟩
    rw [HBR.out]
    obtain ⟨ws, he⟩ := HEW.out
    exact ⟨_, q, rfl, hq, ws, isErr_upd hua (fun k hk b m e h => by have hk : k = g + 1 := hk; subst hk; rw [HR1.out] at h; simp at h) he⟩
  | ok xu =>
    obtain ⟨st, u⟩ := xu
    rw [hb] at hcase
    obtain ⟨rfl, P', ⟨P0, ⟨v, P1, h1, h2, rfl⟩, h3, h4, rfl⟩, hp⟩ := hcase
    obtain ⟨a, b, l, n⟩ := st
    have HBR : Hid (scrd X.data.toList d = .ok ((a, b, l, n), u)) := Lib.hid hb
    obtain ⟨css, Q, g2, g3, g4, g5, rfl⟩ := h2
    obtain ⟨lo, lc, rfl⟩ := own_slice g2
    have HRL := Lib.hid (KRel_own g2 g3 (P := fun k => g + 3 ≤ k) (fun j a1 a2 => KRel.upd (Upd.refl (fun _ => False) w1) (fun _ _ h => h) (fun k hk => (g5 k hk).2.1) _ _ (g4 j a1 a2)) (fun k hk => (g2.lt k hk).1))
    obtain ⟨U, hU⟩ : ∃ U : ByteArray, (⟨u.toArray⟩ : ByteArray) = U := ⟨_, rfl⟩
    have HUU := Lib.hid hU
    rw [hU]
    obtain ⟨A, hA⟩ : ∃ U : ByteArray, (⟨a.toArray⟩ : ByteArray) = U := ⟨_, rfl⟩
    obtain ⟨B, hB⟩ : ∃ U : ByteArray, (⟨b.toArray⟩ : ByteArray) = U := ⟨_, rfl⟩
    have HA := Lib.hid hA
    have HBB := Lib.hid hB
    unfold scRow strV at h1
    have HX1 : Hid (w1.heap[g + 2]? = some (.cells #[.string A, .string B, .slice lo l.length lc, .int .u32 (n : Int), .string ⟨#[]⟩] 26 (0, 0))) := Lib.hid (by rw [← hA, ← hB]; exact h1)
    have hx0 : w1.cell? ⟨g + 2, 0, none⟩ = some (.string A) := row_cell HX1.out (j := 0) rfl
    have hx1 : w1.cell? ⟨g + 2, 1, none⟩ = some (.string B) := row_cell HX1.out (j := 1) rfl
    have hx2 : w1.cell? ⟨g + 2, 2, none⟩ = some (.slice lo l.length lc) := row_cell HX1.out (j := 2) rfl
    have hx3 : w1.cell? ⟨g + 2, 3, none⟩ = some (.int .u32 (n : Int)) := row_cell HX1.out (j := 3) rfl
    have hx4 : w1.cell? ⟨g + 2, 4, none⟩ = some (.string ⟨#[]⟩) := row_cell HX1.out (j := 4) rfl
    have hfx : w1.frozen? ⟨g + 2, 4, none⟩ = false := row_thaw HX1.out 4
    clear hb h1 g2 g3 g4 g5 h3 h4 hp hU
    go_wp2_with fail
    have hux := Upd.set w1 ⟨g + 2, 4, none⟩ (.string U)
    obtain ⟨hr, hua⟩ := sc_set ((hux.block (g + 1) (row_lt HR1.out) (fun e => by have e : g + 1 = g + 2 := e; omega)).trans HR1.out) (.string A) (.string B) (.slice lo l.length lc) (.int .u32 (n : Int)) (.string U)
    refine body_cell2v rfl rfl (load_sc hr rfl) rfl ?_
    have hub := (hux.mono (S' := fun k => k = g + 1 ∨ k = g + 2) fun k _ h => .inr h).trans (hua.mono fun k _ h => .inl h)
    refine ⟨HB1.out.trans (hub.below (by have := HB1.out.size; omega) (fun k _ h => by omega)), ?_⟩
    rw [HBR.out]
    refine ⟨[.string A, .string B, .slice lo l.length lc, .int .u32 (n : Int), .string U], rfl, lo, lc, ?_, KRels.upd hub (fun k hk e => by omega) (fun k hk => by omega) _ _ _ HRL.out⟩
    rw [← HUU.out, ← HA.out, ← HBB.out]; rfl
end Go.Proofs.YtbdbmkmebeemoaaGreatDoor

namespace Go.Proofs.YtbdbmkmebeemoaaGreatDoor
open Go.RowKit

theorem nats_tab4 (w : World) (a0 a1 a2 a3 : Nat) : Nats .i64 (w.alloc (.cells #[.int .i64 (a0 : Int), .int .i64 (a1 : Int), .int .i64 (a2 : Int), .int .i64 (a3 : Int)] 3)) (some ⟨w.heap.size, 0, none⟩) [a0, a1, a2, a3] := by
  intro _
  refine ⟨w.heap.size, 0, rfl, by simp, fun j hj => ?_⟩
  have : j = 0 ∨ j = 1 ∨ j = 2 ∨ j = 3 := by simp at hj; omega
  rcases this with rfl | rfl | rfl | rfl
  · exact row_cell (heap_alloc_new w _) (j := 0) rfl
  · exact row_cell (heap_alloc_new w _) (j := 1) rfl
  · exact row_cell (heap_alloc_new w _) (j := 2) rfl
  · exact row_cell (heap_alloc_new w _) (j := 3) rfl
set_option maxRecDepth 100000 in
set_option maxHeartbeats 2000000 in
theorem sc_tab (w : World) : Calls Tryz.prog 38 #[] w fun e w' => ∃ ao, e = .returned (.slice ao 4 4) ∧ Hid (Nats .i64 w' ao [10, 18, 26, 32]) ∧ Below w.heap.size w w' := by
  have HN := Lib.hid (nats_tab4 w 10 18 26 32)
  go_enter Tryz.func38, Tryz.ntmps38
  go_wp2_with fail
  go_ret
  exact ⟨_, rfl, HN, below_new _ _⟩
theorem sc_rtk (r : Rec) : scF.tk r = rtk [10, 18, 26, 32] r := by
  rw [scF_tk]
  unfold rtk
  rw [Bool.eq_iff_iff]
  simp
  omega
end Go.Proofs.YtbdbmkmebeemoaaGreatDoor

namespace Go.Proofs.YtbdbmkmebeemoaaGreatDoor
open Go.RowKit

theorem ukey_any : UKey := fun Y d' w' hY hd => ((both_any 1000001 Y d' w' (by omega) hY hd).2).mono fun _ _ h => kpost_rd h
theorem unsc_any (hU : Hid UKey) (X : ByteArray) (d : Int) (w : World) (hX : X.size ≤ 500000) (hd : -9223372036854775808 ≤ d ∧ d ≤ 9223372036854775807) :
    Calls Tryz.prog 10 #[.string X, .int .i64 d] w (RdPost scCel sczero (scrd X.data.toList d) X.size w) := unsc_if X d (Lib.hid (fun _ _ _ => hU.out)) w hX hd
end Go.Proofs.YtbdbmkmebeemoaaGreatDoor

namespace Go.Proofs.YtbdbmkmebeemoaaGreatDoor
open Go.RowKit

theorem bytes_rB (num : Nat) (X : ByteArray) (h1 : 1 ≤ num) (h2 : num ≤ 536870911) (hX : X.size ≤ 1000000) (w : World) :
    Calls Tryz.prog 108 #[.int .i64 (num : Int), .string X] w fun e w' => e = .returned (strV (rB num X.data.toList).raw) ∧ Below w.heap.size w w' := by
  have h := wbytes_any (num : Int) X w (by omega) (by omega) (by omega)
  have e := wrec_raw (num := num) (ty := 2) h1 h2 (by omega) (vput X.size ++ X.data.toList)
  rw [show ((2 : Nat) : Int) = 2 from rfl] at e
  have hz : X.data.toList.length = X.size := by simp
  rw [e, ← hz] at h
  exact h
theorem rB_len20 (num : Nat) (s : List UInt8) : (rB num s).raw.length ≤ 20 + s.length := by
  show (vput (8 * num + 2) ++ (vput s.length ++ s)).length ≤ _
  rw [List.length_append, List.length_append]
  have := vput_le10 (8 * num + 2)
  have := vput_le10 s.length
  omega
theorem wv_var {p : Nat} {d : Int} {ps : List (List UInt8)} {hs : List Hole} {b : Bool} {P : Nat → Prop} {w : World} (num n : Nat) (h : WrH p d ps hs b P w) (hn : n < 18446744073709551616) (h1 : 1 ≤ num) (h2 : num ≤ 536870911) (hl : ps.length ≤ 1000000) (hf : ps.flatten.length ≤ 10000000) :
    Calls Tryz.prog 51 #[.pointer (some ⟨p, 0, none⟩), .int .i64 (num : Int), .int .u64 (n : Int)] w (WvPost p d ps hs b P w true (if n = 0 then [] else (rN num n).raw) 1 20) := by
  have h3 := wv_lift (F := 51) (args := #[.pointer (some ⟨p, 0, none⟩), .int .i64 (num : Int), .int .u64 (n : Int)]) (g := true) (ts := wvarP num n) h (fun vo P0 hw => by simpa using wvar_any p d vo ps b P0 num n w (Lib.hid hw) hn h1 h2 hl hf)
  refine h3.mono fun e w' hp => ?_
  by_cases h0 : n = 0
  · rw [wvarP, if_pos h0] at hp
    rw [if_pos h0]
    exact hp.le (by simp) (by simp)
  · rw [wvarP, if_neg h0] at hp
    rw [if_neg h0]
    have e1 : wrec (num : Int) 0 (vput n) = (rN num n).raw := wrec_raw (num := num) (ty := 0) h1 h2 (by omega) (vput n)
    rw [e1] at hp
    have hl : (rN num n).raw.length ≤ 20 := by
      show (vput (8 * num + 0) ++ vput n).length ≤ 20
      rw [List.length_append]
      have := vput_le10 (8 * num + 0)
      have := vput_le10 n
      omega
    simp only [List.flatten_cons, List.flatten_nil, List.append_nil] at hp
    exact hp.le (by simp) hl
/-- where the writer stands, told by its row -/
theorem wrh_row {p : Nat} {d : Int} {ps : List (List UInt8)} {hs : List Hole} {b : Bool} {P : Nat → Prop} {w : World} (h : WrH p d ps hs b P w) : ∃ vp L vo ev, w.heap[p]? = some (.cells #[.int .i64 d, vp, L, vo, ev] 128 (0, 0)) ∧ EV8 b w ev := by
  obtain ⟨vo, P0, ⟨vp, ev, h1, h2, h3, h4⟩, _⟩ := h
  exact ⟨_, _, _, _, h1, h3⟩
set_option maxRecDepth 1000000 in
set_option maxHeartbeats 8000000 in
theorem partk_any (p : Nat) (d d1 : Int) (ps : List (List UInt8)) (hs : List Hole) (b : Bool) (P : Nat → Prop) (w : World) (num F : Nat) (may : Bool) (t : List UInt8) (cs : List Value) (hform : ∃ (K1 : ByteArray) (h1 : Bool) (k1 : Int) (S1 : ByteArray) (b1 : Bool) (n1 : Int) (l1 : Option Addr) (ln1 lc1 : Nat) (m1 : Option Addr) (mn1 mc1 : Nat) (I1 U1 Y1 : ByteArray), cs = [.string K1, .bool h1, .int .i64 k1, .string S1, .bool b1, .int .u64 n1, .slice l1 ln1 lc1, .slice m1 mn1 mc1, .string I1, .string U1, .string Y1]) (hw : Hid (WrH p d ps hs b P w)) (hET : ∀ args w, (callFunc F args).run Tryz.prog w = .ok (.enter F args) w) (hM : Hid (∀ w', Below w.heap.size w w' → Calls Tryz.prog F #[.agg cs.toArray, .int .i64 d1] w' (MarPost may t w'))) (hd1 : IntKind.i64.wrap (d - 1) = d1) (hnum : 1 ≤ num ∧ num ≤ 536870911) (ht : t.length ≤ 1000000) (hl : ps.length ≤ 1000000) (hf : ps.flatten.length + t.length ≤ 9000000) :
    Calls Tryz.prog 78 #[.pointer (some ⟨p, 0, none⟩), .int .i64 (num : Int), .agg cs.toArray, .func (.func F) #[] #[]] w (WvPost p d ps hs b P w may (rB num t).raw 1 (20 + t.length)) := by
  obtain ⟨K1, h1, k1, S1, b1, n1, l1, ln1, lc1, m1, mn1, mc1, I1, U1, Y1, rfl⟩ := hform
  obtain ⟨W0, hW0⟩ : ∃ W0, w.alloc (.cells #[.string K1, .bool h1, .int .i64 k1, .string S1, .bool b1, .int .u64 n1, .slice l1 ln1 lc1, .slice m1 mn1 mc1, .string I1, .string U1, .string Y1] 78) = W0 := ⟨_, rfl⟩
  obtain ⟨bx, hbx⟩ : ∃ bx, w.heap.size = bx := ⟨_, rfl⟩
  have HB0 : Hid (Below w.heap.size w W0) := Lib.hid (by rw [← hW0]; exact below_new _ _)
  have HX0 : Hid (W0.heap[bx]? = some (.cells #[.string K1, .bool h1, .int .i64 k1, .string S1, .bool b1, .int .u64 n1, .slice l1 ln1 lc1, .slice m1 mn1 mc1, .string I1, .string U1, .string Y1] 78 (0, 0))) := Lib.hid (by rw [← hW0, ← hbx]; exact heap_alloc_new _ _)
  have HSO := Lib.hid ((WSo.start hw.out).below HB0.out)
  obtain ⟨vp, L, vo, ev, hrow, hev⟩ := wrh_row (wh_below hw.out HB0.out)
  have HW0 := Lib.hid hW0
  have HBX := Lib.hid hbx
  have hpx : p ≠ bx := by
    obtain ⟨_, _, _, _, h, _⟩ := wrh_row hw.out
    have := row_lt h
    omega
  have k4 : W0.cell? ⟨p, 4, none⟩ = some ev := row_cell hrow (j := 4) rfl
  have HROW := Lib.hid hrow
  cases b with
  | true =>
    obtain ⟨T', y, rfl⟩ := hev.yes.iface
    rw [← hW0] at k4
    clear hev hrow hW0 hbx hd1
    go_enter Tryz.func78, Tryz.ntmps78
    go_wp2_with fail
    go_end0
    rw [HW0.out]
    have h1 := (HSO.out.done.le (l2 := 1) (f2 := 20 + t.length) (by omega) (by omega)).conv (m2 := may) (t2 := (rB num t).raw) (fun h => by cases h) (fun h => by cases h)
    exact h1
  | false =>
    obtain rfl := hev.no
    clear hev hrow
    have HM := Lib.hid (fun w' hb => hM.out w' (below_step HB0.out hb))
    rw [← hW0] at k4
    clear hW0 hbx
    go_enter Tryz.func78, Tryz.ntmps78
    go_wp2_with fail
    go_upto_region 2 with fail
    all_goals
      rw [HW0.out, HBX.out]
      obtain ⟨D, hD⟩ : ∃ D, W0.drew = D := ⟨_, rfl⟩
      have hB : Below W0.heap.size W0 D := by rw [← hD]; exact (Below.refl _ _).drew
      have hS : R2 bx #[.string K1, .bool h1, .int .i64 k1, .string S1, .bool b1, .int .u64 n1, .slice l1 ln1 lc1, .slice m1 mn1 mc1, .string I1, .string U1, .string Y1] 78 p #[.int .i64 d, vp, L, vo, .nilIface] 128 D := ⟨(hB.block _ (row_lt HX0.out)).trans HX0.out, (hB.block _ (row_lt HROW.out)).trans HROW.out⟩
      have hne : Nonempty {w' : World // R2 bx #[.string K1, .bool h1, .int .i64 k1, .string S1, .bool b1, .int .u64 n1, .slice l1 ln1 lc1, .slice m1 mn1 mc1, .string I1, .string U1, .string Y1] 78 p #[.int .i64 d, vp, L, vo, .nilIface] 128 w'} := ⟨⟨_, hS⟩⟩
      refine wp_region_seq (S := R2 bx #[.string K1, .bool h1, .int .i64 k1, .string S1, .bool b1, .int .u64 n1, .slice l1 ln1 lc1, .slice m1 mn1 mc1, .string I1, .string U1, .string Y1] 78 p #[.int .i64 d, vp, L, vo, .nilIface] 128) [(0, true), (1, true), (2, true), (3, true), (4, true), (5, true), (6, true), (7, false), (8, true), (9, true), (10, true), (11, true), (12, true)] (by kernel_rfl) (by kernel_rfl) (by kernel_rfl) (by kernel_rfl) (by rw [hD]; exact hS) ?_
      rw [hD]
      (refine seq_take _ rfl (fun KC hK => ?_); go_simp; (first | refine hK _ ?_ | refine ⟨_, fun _ _ => rfl, hK _ ?_⟩); clear hK KC)
      refine seq_take _ rfl (fun KC hK => ?_); go_simp
      refine ⟨.agg #[.string K1, .bool h1, .int .i64 k1, .string S1, .bool b1, .int .u64 n1, .slice l1 ln1 lc1, .slice m1 mn1 mc1, .string I1, .string U1, .string Y1], fun a ha => by obtain ⟨p0, p1, p2, p3, p4, p5, p6, p7, p8, p9, p10⟩ := row11 ha.1; simp only [p0, p1, p2, p3, p4, p5, p6, p7, p8, p9, p10, Result.andThen], hK _ ?_⟩
      clear hK KC
      iterate 3 (refine seq_take _ rfl (fun KC hK => ?_); go_simp; (first | refine hK _ ?_ | refine ⟨_, fun _ _ => rfl, hK _ ?_⟩); clear hK KC)
      refine seq_take _ rfl (fun KC hK => ?_); go_simp
      refine ⟨.int .i64 d, fun a ha => by rw [row_cell ha.2 (j := 0) rfl]; rfl, hK _ ?_⟩
      clear hK KC
      (refine seq_take _ rfl (fun KC hK => ?_); go_simp; (first | refine hK _ ?_ | refine ⟨_, fun _ _ => rfl, hK _ ?_⟩); clear hK KC)
      refine seq_come _ rfl (fun KC hK => ?_); go_simp
      refine (HM.out D hB).mono ?_; rintro e w1 ⟨hb1, hcase⟩
      have hS1 := hS.below hb1
      have HSO1 := Lib.hid (HSO.out.below (below_step hB hb1))
      cases may with
      | true =>
        rw [if_pos rfl] at hcase
        subst hcase
        go_simp
        refine hK.out _ _ hS1 ?_; clear hK KC
        iterate 5 (refine seq_take _ rfl (fun KC hK => ?_); go_simp; (first | refine hK _ ?_ | refine ⟨_, fun _ _ => rfl, hK _ ?_⟩); clear hK KC)
        refine seq_done ?_
        clear hne hS hS1
        go_wp2_with fail
        refine (bytes_rB num ⟨t.toArray⟩ hnum.1 hnum.2 (by simp [ByteArray.size]; omega) w1).mono ?_; rintro e w2 ⟨rfl, hb2⟩
        have HSO2 := Lib.hid (HSO1.out.below hb2)
        have hr20 := rB_len20 num t
        go_wp2_with fail
        have hwr := HSO2.out.wr
        have hput := wv_put (rB num t).raw hwr (by rw [List.length_append]; have := HSO2.out.len; omega) (by rw [List.flatten_append, List.length_append]; have := HSO2.out.size; omega)
        refine hput.mono ?_; intro e w3 hpost
        obtain ⟨qs2, P2, rfl, hso⟩ := HSO2.out.next hpost
        have HF := Lib.hid hso
        clear hpost hput hwr hso
        go_wp2_with fail
        go_end0
        exact HF.out.done.le (by omega) (by omega)
      | false =>
        rw [if_neg (by simp)] at hcase
        obtain ⟨v, rfl, hec⟩ := hcase
        obtain ⟨T', y, rfl⟩ := hec.iface
        have HEC := Lib.hid hec
        clear hec
        go_simp
        refine hK.out _ _ hS1 ?_; clear hK KC
        iterate 5 (refine seq_take _ rfl (fun KC hK => ?_); go_simp; (first | refine hK _ ?_ | refine ⟨_, fun _ _ => rfl, hK _ ?_⟩); clear hK KC)
        refine seq_done ?_
        clear hne hS hS1
        go_wp2_with fail
        refine (in_any _ _ _ _).mono ?_; rintro e w2 ⟨rfl, rfl⟩
        have HEF := Lib.hid (ec_field (n := (num : Int)) HEC.out)
        have HSO2 := Lib.hid (HSO1.out.below (below_new w1 (.cells #[.int .i64 (num : Int), .iface T' y] 113)))
        go_wp2_with fail
        have hlift := wv_lift (F := 106) (args := #[.pointer (some ⟨p, 0, none⟩), .iface 111 (.pointer (some ⟨w1.heap.size, 0, none⟩))]) (g := false) (ts := []) HSO2.out.wr (fun vo P0 h1 => by rw [Bool.not_false, Bool.or_true, wps_nil]; exact wfail_any p d vo _ _ P0 _ _ _ (Lib.hid h1) HEF)
        refine hlift.mono ?_; intro e w3 hpost
        obtain ⟨qs2, P2, rfl, hso⟩ := HSO2.out.next hpost
        have HF := Lib.hid hso
        clear hpost hlift hso
        go_wp2_with fail
        go_end0
        exact (HF.out.done.le (l2 := 1) (f2 := 20 + t.length) (by simp) (by simp)).conv (m2 := false) (t2 := (rB num t).raw) (fun _ => rfl) (fun _ h => by cases h)
/-- value.MarshalKey, of any attribute -/
def KMar : Prop := ∀ (x : KV) (cs : List Value) (Q : Nat → Prop) (d : Int) (w : World) (_ : kfit x) (_ : KRel w Q x cs) (_ : -9223372036854775808 ≤ d ∧ d ≤ 9223372036854775807) (_ : kw x ≤ 400000), Calls Tryz.prog 50 #[.agg cs.toArray, .int .i64 d] w (MarPost (kmayD x d) (kout x) w)
set_option maxRecDepth 1000000 in
set_option maxHeartbeats 8000000 in
theorem listk_if (l : List KV) (hM : Hid (l ≠ [] → KMar)) (p : Nat) (d : Int) (ps : List (List UInt8)) (hs : List Hole) (b : Bool) (P Q : Nat → Prop) (w : World) (num : Nat) (lo : Option Addr) (lc : Nat) (hfit : ksfit l) (ha : KRels w Q l lo 0) (hdis : ∀ k, Q k → ¬ P k) (hw : WrH p d ps hs b P w) (hbd : b = true ∨ 0 ≤ d) (hd : -9223372036854775808 ≤ d ∧ d ≤ 9223372036854775807) (hnum : 1 ≤ num ∧ num ≤ 536870911) (hsz : ps.length + ksw l ≤ 500000 ∧ ps.flatten.length + ksw l ≤ 5000000 ∧ ksw l ≤ 400000) :
    Calls Tryz.prog 49 #[.pointer (some ⟨p, 0, none⟩), .int .i64 (num : Int), .slice lo l.length lc, .func (.func 50) #[] #[]] w (WvPost p d ps hs b P w (kmays l d) (kouts num l) (ksw l) (ksw l)) := by
  have HFIT := Lib.hid hfit
  have HA := Lib.hid (KRels.lt l lo 0 ha)
  have HDIS := Lib.hid hdis
  have HW := Lib.hid hw
  have HBD := Lib.hid hbd
  have HSZ := Lib.hid hsz
  have HNUM := Lib.hid hnum
  have hlen : l.length ≤ 500000 := by have := ksw_len l; omega
  obtain ⟨d1, hd1⟩ : ∃ d1, IntKind.i64.wrap (d - 1) = d1 := ⟨_, rfl⟩
  have HD1 : Hid (0 ≤ d → d1 = d - 1) := Lib.hid (fun h => by rw [← hd1, IntWalk.i64_in _ (by omega)])
  have HD1R : Hid (-9223372036854775808 ≤ d1 ∧ d1 ≤ 9223372036854775807) := Lib.hid (by
    rcases Int.lt_or_le (-9223372036854775808) d with h | h
    · rw [IntWalk.i64_in _ (by omega)] at hd1; omega
    · have e : d = -9223372036854775808 := by omega
      subst e
      have : IntKind.i64.wrap (-9223372036854775808 - 1) = 9223372036854775807 := by decide +kernel
      omega)
  have HQ1 := Lib.hid hd1
  have HE := Lib.hid (enters_of Tryz.func50 (by kernel_rfl) rfl)
  clear hfit ha hdis hw hbd hsz hnum hd hd1
  go_enter Tryz.func49, Tryz.ntmps49
  go_wp2_with fail
  go_loopg [12] l.length (fun k i wr => ∃ (j : Nat) (qs : List (List UInt8)) (P1 : Nat → Prop), i = .int .i64 (j : Int) ∧ j + k = l.length ∧ Hid (WSo p d ps hs b P w (kmays (l.take j) d) (kouts num (l.take j)) (ksw (l.take j)) (ksw (l.take j)) qs P1 wr))
  case atStart => exact ⟨0, [], P, rfl, by omega, Lib.hid (by simpa [kmays, kouts, ksw] using WSo.start HW.out)⟩
  case round =>
    obtain ⟨j, qs, P1, rfl, hj, HSO⟩ := hrel
    have HJ := Lib.hid hj
    clear hj
    by_cases hlt : j < l.length
    · have HAW : Hid (KRels wr (fun k => Q k ∧ k < w.heap.size) l lo 0) := Lib.hid (KRels.upd HSO.out.upd (fun k hk hp => HDIS.out k hk.1 hp) (fun k hk => hk) l lo 0 HA.out)
      obtain ⟨ga, oa, ca, rfl, hga, hca, hra⟩ := krels_at0 HAW.out j hlt
      have hmem := List.getElem_mem hlt
      obtain ⟨x, hx⟩ : ∃ x, l[j] = x := ⟨_, rfl⟩
      have HFX := Lib.hid (ksfit_at HFIT.out x (hx ▸ hmem))
      have HTM : Hid (kmays (l.take (j + 1)) d = (kmays (l.take j) d && (decide (1 ≤ d) && kmay x (d - 1)))) := Lib.hid (by rw [List.take_succ_eq_append_getElem hlt, kmays_app, hx, kmays_one])
      have HTO : Hid (kouts num (l.take (j + 1)) = kouts num (l.take j) ++ (rB num (kout x)).raw) := Lib.hid (by rw [List.take_succ_eq_append_getElem hlt, kouts_app, hx, kouts_one])
      have HTW : Hid (ksw (l.take (j + 1)) = ksw (l.take j) + kw x) := Lib.hid (by rw [List.take_succ_eq_append_getElem hlt, ksw_app, hx, ksw_one])
      have HTB : Hid (ksw (l.take j) + kw x ≤ ksw l) := Lib.hid (by rw [← hx]; exact ksw_at hlt)
      have HKO : Hid ((kout x).length + 20 ≤ kw x) := Lib.hid (by have := kout_le x; have := kw_kb x; omega)
      rw [hx] at hra
      have HRA := Lib.hid hra
      obtain ⟨K1, h1, k1, S1, b1, n1, l1, ln1, lc1, m1, mn1, mc1, I1, U1, Y1, rfl⟩ := hra.form
      have HCA := Lib.hid hca
      obtain ⟨wa, hwa⟩ : ∃ wa, wr.alloc (.cells #[.string K1, .bool h1, .int .i64 k1, .string S1, .bool b1, .int .u64 n1, .slice l1 ln1 lc1, .slice m1 mn1 mc1, .string I1, .string U1, .string Y1] 78) = wa := ⟨_, rfl⟩
      have HBA : Hid (Below wr.heap.size wr wa) := Lib.hid (by rw [← hwa]; exact below_new _ _)
      have HSA := Lib.hid (HSO.out.below HBA.out)
      have HWA := Lib.hid hwa
      have Hpartk_any := Lib.hid (partk_any p d d1 (ps ++ qs) hs (b || !kmays (l.take j) d) P1 wa num 50 (kmayD x d1) (kout x) [.string K1, .bool h1, .int .i64 k1, .string S1, .bool b1, .int .u64 n1, .slice l1 ln1 lc1, .slice m1 mn1 mc1, .string I1, .string U1, .string Y1] ⟨K1, h1, k1, S1, b1, n1, l1, ln1, lc1, m1, mn1, mc1, I1, U1, Y1, rfl⟩ (Lib.hid HSA.out.wr) HE.out (Lib.hid (fun w' hb => hM.out (fun h => by rw [h] at hlt; simp at hlt) x [.string K1, .bool h1, .int .i64 k1, .string S1, .bool b1, .int .u64 n1, .slice l1 ln1 lc1, .slice m1 mn1 mc1, .string I1, .string U1, .string Y1] _ d1 w' HFX.out ((HRA.out.below HBA.out).below hb) HD1R.out (by have := HTB.out; have := HSZ.out; omega))) HQ1.out HNUM.out (by have := HKO.out; have := HTB.out; have := HSZ.out; omega) (by rw [List.length_append]; have := HSA.out.len; have := HTB.out; have := HSZ.out; omega) (by rw [List.flatten_append, List.length_append]; have := HSA.out.size; have := HKO.out; have := HTB.out; have := HSZ.out; omega))
      clear hx hmem hra hca hwa
      obtain ⟨e0, e1, e2, e3, e4, e5, e6, e7, e8, e9, e10⟩ := cells11 HCA.out
      go_wp2_with fail
      rw [HWA.out]
      refine Hpartk_any.out.mono ?_; intro e w5 hpost
      have hp2 := hpost.conv (m2 := decide (1 ≤ d) && kmay x (d - 1)) (t2 := (rB num (kout x)).raw) (fun hb => by
        have h0 : 0 ≤ d := by
          rcases HBD.out with h | h
          · rw [h] at hb; cases hb
          · exact h
        rw [HD1.out h0, kmayD]
        congr 1
        exact decide_eq_decide.2 (by omega)) (fun _ _ => rfl)
      obtain ⟨qs2, P2, rfl, hso⟩ := HSA.out.next hp2
      rw [← HTM.out, ← HTO.out] at hso
      have HS5 := Lib.hid hso
      clear hpost hp2 hso e0 e1 e2 e3 e4 e5 e6 e7 e8 e9 e10
      go_wp2_with fail
      have hj := HJ.out
      go_roundg (gk - 1)
      case measure => omega
      case rel => exact ⟨j + 1, qs ++ qs2, P2, by simp, by omega, Lib.hid ⟨HS5.out.upd, HS5.out.wr, HS5.out.new, HS5.out.bytes, by have := HS5.out.len; have := HTW.out; have := HKO.out; omega, by have := HS5.out.size; have := HTW.out; have := HKO.out; omega⟩⟩
    · have hjn : j = l.length := by have := HJ.out; omega
      subst hjn
      rw [List.take_length] at HSO
      go_wp2_with fail
      go_end0
      exact HSO.out.done
end Go.Proofs.YtbdbmkmebeemoaaGreatDoor
namespace Go.Proofs.YtbdbmkmebeemoaaGreatDoor
open Go.RowKit

theorem mar_below {w W0 w1 w2 w3 : World} {p : Nat} {P1 : Nat → Prop} (h0 : Below w.heap.size w W0) (hp : W0.heap.size = p) (h1 : Below p W0 w1) (h2 : Upd P1 w1 w2) (hP : ∀ k, P1 k → p ≤ k) (h3 : Below w2.heap.size w2 w3) : Below w.heap.size w w3 :=
  h0.trans ((h1.trans ((h2.below (by have := h1.size; omega) (fun k _ h => hP k h)).trans (h3.mono (by have := h1.size; have := h2.size; omega)))).mono (by have := h0.size; omega))
theorem wbytesP_len (num : Nat) (h1 : 1 ≤ num) (h2 : num ≤ 536870911) (t : List UInt8) : (wbytesP num t).length ≤ 1 ∧ (wbytesP num t).flatten.length ≤ 20 + t.length := by
  unfold wbytesP
  split
  · simp
  · have e := wrec_raw (num := num) (ty := 2) h1 h2 (by omega) (vput t.length ++ t)
    have e2 : wrec (num : Int) 2 (vput t.length ++ t) = (rB num t).raw := e
    rw [e2]
    have := rB_len20 num t
    simp only [List.length_cons, List.length_nil, List.flatten_cons, List.flatten_nil, List.append_nil]
    omega
theorem wbytesP_raw (num : Nat) (h1 : 1 ≤ num) (h2 : num ≤ 536870911) (t : List UInt8) : (wbytesP num t).flatten = if t = [] then [] else (rB num t).raw := by
  unfold wbytesP
  split
  · rfl
  · have e := wrec_raw (num := num) (ty := 2) h1 h2 (by omega) (vput t.length ++ t)
    have e2 : wrec (num : Int) 2 (vput t.length ++ t) = (rB num t).raw := e
    rw [e2]
    simp
theorem u64_wrap32 {n : Nat} (h : n < 4294967296) : IntKind.u64.wrap (n : Int) = (n : Int) := by
  show ((n : Int) % 18446744073709551616) = _
  omega
def rs_may (d : Int) (x : (List KV × Nat) × List UInt8) : Bool := decide (0 ≤ d) && (kmays x.1.1 d && munkOk rsF.tk x.2 d)
def rs_out (x : (List KV × Nat) × List UInt8) : List UInt8 := kouts 1 x.1.1 ++ (if x.1.2 = 0 then [] else (rN 2 x.1.2).raw) ++ x.2
/-- little enough to be written -/
def rs_fit (x : (List KV × Nat) × List UInt8) : Prop := ksfit x.1.1 ∧ x.1.2 < 4294967296 ∧ ksw x.1.1 + x.2.length ≤ 400000
set_option maxRecDepth 1000000 in
set_option maxHeartbeats 8000000 in
theorem rs_marshal_if (x : (List KV × Nat) × List UInt8) (hM : Hid (x.1.1 ≠ [] → KMar)) (cs : List Value) (Q : Nat → Prop) (d : Int) (w : World) (hf : rs_fit x) (hr : RsRel w Q x cs) (hd : -9223372036854775808 ≤ d ∧ d ≤ 9223372036854775807) :
    Calls Tryz.prog 26 #[.agg cs.toArray, .int .i64 d] w (MarPost (rs_may d x) (rs_out x) w) := by
  obtain ⟨lo, lc, rfl, hr⟩ := hr
  obtain ⟨⟨l, n⟩, u⟩ := x
  have HR := Lib.hid (KRels.lt _ _ _ hr)
  have HD := Lib.hid hd
  obtain ⟨HFL, HFN, HFw⟩ := hf
  dsimp only at HFL HFN HFw
  obtain ⟨U, hU⟩ : ∃ U : ByteArray, (⟨u.toArray⟩ : ByteArray) = U := ⟨_, rfl⟩
  have HU := Lib.hid hU
  have HFK : Hid (ksw l + u.length ≤ 400000) := Lib.hid HFw
  have HFL := Lib.hid HFL
  have HM := Lib.hid (show rs_may d (((l, n), u)) = rs_may d (((l, n), u)) from rfl)
  dsimp only [strV]
  rw [hU]
  obtain ⟨mx, hmx⟩ : ∃ m, rs_may d (((l, n), u)) = m := ⟨_, rfl⟩
  obtain ⟨ox, hox⟩ : ∃ m, rs_out (((l, n), u)) = m := ⟨_, rfl⟩
  rw [hmx, hox]
  have HMX := Lib.hid hmx
  have HOX := Lib.hid hox
  obtain ⟨W0, hW0⟩ : ∃ W, w.alloc (.cells #[.slice lo l.length lc, .int .u32 (n : Int), .string U] 45) = W := ⟨_, rfl⟩
  obtain ⟨bx, hbx⟩ : ∃ bx, w.heap.size = bx := ⟨_, rfl⟩
  have HB0 : Hid (Below w.heap.size w W0) := Lib.hid (by rw [← hW0]; exact below_new _ _)
  have HX0 : Hid (W0.heap[bx]? = some (.cells #[.slice lo l.length lc, .int .u32 (n : Int), .string U] 45 (0, 0))) := Lib.hid (by rw [← hW0, ← hbx]; exact heap_alloc_new _ _)
  have HW0 := Lib.hid hW0
  have HBX := Lib.hid hbx
  have HET := Lib.hid (enters_of Tryz.func58 (by kernel_rfl) rfl)
  have HFN := Lib.hid HFN
  have q1 := u64_wrap32 HFN.out
  clear hW0 hbx hr hd HM hmx hox hU HFw
  go_enter Tryz.func26, Tryz.ntmps26
  go_wp2_with fail
  rw [HW0.out, HBX.out]
  refine (wmnew_any d W0).mono ?_; rintro e w1 ⟨rfl, hb1, P1, hw1, hp1⟩
  obtain ⟨p, hp⟩ : ∃ p, W0.heap.size = p := ⟨_, rfl⟩
  have hpp : bx < p := by rw [← hp]; exact row_lt HX0.out
  rw [hp] at hw1 hb1 hp1 ⊢
  have HB1 : Hid (Below p W0 w1) := Lib.hid hb1
  have HP1 : Hid (∀ k, P1 k → p ≤ k) := Lib.hid hp1
  have HPE := Lib.hid hp
  have HS := Lib.hid (WSx.start (wh_new hw1) (Below.refl _ _) ((hb1.block _ hpp).trans HX0.out) (fun h => by have := hp1 bx h; omega))
  have HR1 : Hid (KRels w1 (fun k => Q k ∧ k < w.heap.size) l lo 0) := Lib.hid (KRels.upd (Upd.of_new (S := fun _ => False) (HB0.out.trans (hb1.mono (by have := HB0.out.size; omega)))) (fun _ _ h => h) (fun _ h => h) l lo 0 HR.out)
  have HQ1 : Hid (∀ k, Q k ∧ k < w.heap.size → k < p ∧ k < w1.heap.size) := Lib.hid (fun k hk => by have := HB0.out.size; have := hb1.size; omega)
  clear hb1 hw1 hp1 hp
  have xc : w1.cell? ⟨bx, 0, none⟩ = some (.slice lo l.length lc) := HS.out.cell rfl
  go_wp2_with fail
  refine (listk_if l hM p d _ [] _ _ (fun k => Q k ∧ k < w.heap.size) w1 1 lo lc HFL.out (KRels.upd HS.out.so.upd (fun k hk h => by have := HP1.out k h; have := HQ1.out k hk; omega) (fun _ h => h) l lo 0 HR1.out) (fun k hk h => by have := HQ1.out k hk; rcases HS.out.so.new k h with h | h; (have := HP1.out k h; omega); omega) HS.out.so.wr (by by_cases h : d < 0; (left; simp [h]); (right; omega)) HD.out (by omega) ⟨by have := HS.out.so.len; have := HFK.out; simp only [List.nil_append]; omega, by have := HS.out.so.size; have := HFK.out; simp only [List.nil_append]; omega, by have := HFK.out; omega⟩).mono ?_; intro e w2 hpost
  obtain ⟨qs2, P2, rfl, hs⟩ := HS.out.next hpost
  have HSN := Lib.hid hs
  clear hpost hs HS xc
  have HS := HSN
  clear HSN
  have xc : w2.cell? ⟨bx, 1, none⟩ = some (.int .u32 (n : Int)) := HS.out.cell rfl
  go_wp2_with fail
  refine (wv_var 2 n HS.out.so.wr (by have := HFN.out; omega) (by omega) (by omega) (by have := HS.out.so.len; have := HFK.out; simp only [List.nil_append]; omega) (by have := HS.out.so.size; have := HFK.out; simp only [List.nil_append]; omega)).mono ?_; intro e w3 hpost
  obtain ⟨qs3, P3, rfl, hs⟩ := HS.out.next hpost
  have HSN := Lib.hid hs
  clear hpost hs HS xc
  have HS := HSN
  clear HSN
  have xc : w3.cell? ⟨bx, 2, none⟩ = some (.string U) := HS.out.cell rfl
  go_wp2_with fail
  refine (wv_rest U u rsF.tk 58 HS.out.so.wr HU.out.symm (by have := HFK.out; omega) (by have := HS.out.so.len; have := HFK.out; simp only [List.nil_append]; omega) (by have := HS.out.so.size; have := HFK.out; simp only [List.nil_append]; omega) HET.out (fun r w => rstakes_any r w)).mono ?_; intro e w4 hpost
  obtain ⟨qs4, P4, rfl, hs⟩ := HS.out.next hpost
  have HSN := Lib.hid hs
  clear hpost hs HS xc
  have HS := HSN
  clear HSN
  go_wp2_with fail
  obtain ⟨vo, P0, hwa, _⟩ := HS.out.so.wr
  have HWA := Lib.hid hwa
  have HLB := Lib.hid (And.intro HS.out.so.len HS.out.so.size)
  clear hwa
  refine (wend_any p d vo _ _ P0 _ HWA (by have := HLB.out.1; simp only [List.nil_append]; (have := HFK.out; omega)) (by have := HLB.out.2; simp only [List.nil_append]; (have := HFK.out; omega))).mono ?_; rintro e w9 ⟨hb9, hcase⟩
  have HB9 := Lib.hid (mar_below HB0.out HPE.out HB1.out HS.out.so.upd HP1.out hb9)
  have HBY := Lib.hid HS.out.so.bytes
  obtain ⟨bb, hbb⟩ : ∃ bb, (decide (d < 0) || !(((true && kmays l d) && true) && munkOk rsF.tk u d)) = bb := ⟨_, rfl⟩
  rw [hbb] at hcase HBY
  have HBB : Hid (mx = !bb) := Lib.hid (by
    rw [← HMX.out, ← hbb]
    show (decide (0 ≤ d) && (kmays l d && munkOk rsF.tk u d)) = _
    by_cases h : d < 0
    · rw [decide_eq_true h, decide_eq_false (by omega : ¬ 0 ≤ d)]; rfl
    · rw [decide_eq_false h, decide_eq_true (by omega : 0 ≤ d)]
      simp only [Bool.true_and, Bool.and_true, Bool.false_or, Bool.not_not])
  clear hb9 hbb
  cases bb with
  | true =>
    rw [if_pos rfl] at hcase
    obtain ⟨v, rfl, hec⟩ := hcase
    obtain ⟨T', y, rfl⟩ := hec.iface
    have HEC := Lib.hid hec
    clear hec
    go_wp2_with fail
    go_ret2
    refine ⟨HB9.out, ?_⟩
    rw [HBB.out, if_neg (by simp)]
    exact ⟨_, rfl, HEC.out⟩
  | false =>
    rw [if_neg (by simp)] at hcase
    subst hcase
    have hq9 := HBY.out rfl
    rw [List.nil_append, hq9]
    have hoe : ([] ++ kouts 1 l ++ (if n = 0 then [] else (rN 2 n).raw) ++ u : List UInt8) = ox := by
      rw [← HOX.out]
      unfold rs_out
      dsimp only
      rw [List.nil_append]
    rw [hoe]
    clear hoe hq9
    go_wp2_with fail
    go_ret2
    refine ⟨HB9.out, ?_⟩
    rw [HBB.out, if_pos (show (!false) = true from rfl)]
    rfl
def sc_may (d : Int) (x : (List UInt8 × List UInt8 × List KV × Nat) × List UInt8) : Bool := decide (0 ≤ d) && (((uvalid x.1.1 && uvalid x.1.2.1) && kmays x.1.2.2.1 d) && munkOk scF.tk x.2 d)
def sc_out (x : (List UInt8 × List UInt8 × List KV × Nat) × List UInt8) : List UInt8 := (if x.1.1 = [] then [] else (rB 1 x.1.1).raw) ++ (if x.1.2.1 = [] then [] else (rB 2 x.1.2.1).raw) ++ kouts 3 x.1.2.2.1 ++ (if x.1.2.2.2 = 0 then [] else (rN 4 x.1.2.2.2).raw) ++ x.2
/-- little enough to be written -/
def sc_fit (x : (List UInt8 × List UInt8 × List KV × Nat) × List UInt8) : Prop := ksfit x.1.2.2.1 ∧ x.1.2.2.2 < 4294967296 ∧ x.1.1.length + x.1.2.1.length + ksw x.1.2.2.1 + x.2.length ≤ 400000
set_option maxRecDepth 1000000 in
set_option maxHeartbeats 8000000 in
theorem sc_marshal_if (x : (List UInt8 × List UInt8 × List KV × Nat) × List UInt8) (hM : Hid (x.1.2.2.1 ≠ [] → KMar)) (cs : List Value) (Q : Nat → Prop) (d : Int) (w : World) (hf : sc_fit x) (hr : ScRel w Q x cs) (hd : -9223372036854775808 ≤ d ∧ d ≤ 9223372036854775807) :
    Calls Tryz.prog 16 #[.agg cs.toArray, .int .i64 d] w (MarPost (sc_may d x) (sc_out x) w) := by
  obtain ⟨lo, lc, rfl, hr⟩ := hr
  obtain ⟨⟨a, b, l, n⟩, u⟩ := x
  have HR := Lib.hid (KRels.lt _ _ _ hr)
  have HD := Lib.hid hd
  obtain ⟨HFL, HFN, HFw⟩ := hf
  dsimp only at HFL HFN HFw
  obtain ⟨U, hU⟩ : ∃ U : ByteArray, (⟨u.toArray⟩ : ByteArray) = U := ⟨_, rfl⟩
  have HU := Lib.hid hU
  have HFK : Hid (a.length + b.length + ksw l + u.length ≤ 400000) := Lib.hid HFw
  have HFL := Lib.hid HFL
  obtain ⟨A, hA⟩ : ∃ U : ByteArray, (⟨a.toArray⟩ : ByteArray) = U := ⟨_, rfl⟩
  obtain ⟨B, hB⟩ : ∃ U : ByteArray, (⟨b.toArray⟩ : ByteArray) = U := ⟨_, rfl⟩
  have HA : Hid (A.data.toList = a) := Lib.hid (by rw [← hA])
  have HBB0 : Hid (B.data.toList = b) := Lib.hid (by rw [← hB])
  have HM := Lib.hid (show sc_may d (((a, b, l, n), u)) = sc_may d (((a, b, l, n), u)) from rfl)
  dsimp only [strV]
  rw [hU, hA, hB]
  obtain ⟨mx, hmx⟩ : ∃ m, sc_may d (((a, b, l, n), u)) = m := ⟨_, rfl⟩
  obtain ⟨ox, hox⟩ : ∃ m, sc_out (((a, b, l, n), u)) = m := ⟨_, rfl⟩
  rw [hmx, hox]
  have HMX := Lib.hid hmx
  have HOX := Lib.hid hox
  obtain ⟨W0, hW0⟩ : ∃ W, w.alloc (.cells #[.string A, .string B, .slice lo l.length lc, .int .u32 (n : Int), .string U] 26) = W := ⟨_, rfl⟩
  obtain ⟨bx, hbx⟩ : ∃ bx, w.heap.size = bx := ⟨_, rfl⟩
  have HB0 : Hid (Below w.heap.size w W0) := Lib.hid (by rw [← hW0]; exact below_new _ _)
  have HX0 : Hid (W0.heap[bx]? = some (.cells #[.string A, .string B, .slice lo l.length lc, .int .u32 (n : Int), .string U] 26 (0, 0))) := Lib.hid (by rw [← hW0, ← hbx]; exact heap_alloc_new _ _)
  have HW0 := Lib.hid hW0
  have HBX := Lib.hid hbx
  have HET := Lib.hid (enters_of Tryz.func32 (by kernel_rfl) rfl)
  have HFN := Lib.hid HFN
  have q1 := u64_wrap32 HFN.out
  clear hW0 hbx hr hd HM hmx hox hU hA hB HFw
  go_enter Tryz.func16, Tryz.ntmps16
  go_wp2_with fail
  rw [HW0.out, HBX.out]
  refine (wmnew_any d W0).mono ?_; rintro e w1 ⟨rfl, hb1, P1, hw1, hp1⟩
  obtain ⟨p, hp⟩ : ∃ p, W0.heap.size = p := ⟨_, rfl⟩
  have hpp : bx < p := by rw [← hp]; exact row_lt HX0.out
  rw [hp] at hw1 hb1 hp1 ⊢
  have HB1 : Hid (Below p W0 w1) := Lib.hid hb1
  have HP1 : Hid (∀ k, P1 k → p ≤ k) := Lib.hid hp1
  have HPE := Lib.hid hp
  have HS := Lib.hid (WSx.start (wh_new hw1) (Below.refl _ _) ((hb1.block _ hpp).trans HX0.out) (fun h => by have := hp1 bx h; omega))
  have HR1 : Hid (KRels w1 (fun k => Q k ∧ k < w.heap.size) l lo 0) := Lib.hid (KRels.upd (Upd.of_new (S := fun _ => False) (HB0.out.trans (hb1.mono (by have := HB0.out.size; omega)))) (fun _ _ h => h) (fun _ h => h) l lo 0 HR.out)
  have HQ1 : Hid (∀ k, Q k ∧ k < w.heap.size → k < p ∧ k < w1.heap.size) := Lib.hid (fun k hk => by have := HB0.out.size; have := hb1.size; omega)
  clear hb1 hw1 hp1 hp
  have xc : w1.cell? ⟨bx, 0, none⟩ = some (.string A) := HS.out.cell rfl
  go_wp2_with fail
  refine ((wv_text 1 A a HS.out.so.wr HA.out (by omega) (by have := HFK.out; omega) (by have := HS.out.so.len; have := HFK.out; simp only [List.nil_append]; omega) (by have := HS.out.so.size; have := HFK.out; simp only [List.nil_append]; omega)).mono (fun _ _ h => h.le (l2 := 1) (f2 := 20 + a.length) (wbytesP_len 1 (by omega) (by omega) a).1 (wbytesP_len 1 (by omega) (by omega) a).2)).mono ?_; intro e w2 hpost
  obtain ⟨qs2, P2, rfl, hs⟩ := HS.out.next hpost
  have HSN := Lib.hid hs
  clear hpost hs HS xc
  have HS := HSN
  clear HSN
  have xc : w2.cell? ⟨bx, 1, none⟩ = some (.string B) := HS.out.cell rfl
  go_wp2_with fail
  refine ((wv_text 2 B b HS.out.so.wr HBB0.out (by omega) (by have := HFK.out; omega) (by have := HS.out.so.len; have := HFK.out; simp only [List.nil_append]; omega) (by have := HS.out.so.size; have := HFK.out; simp only [List.nil_append]; omega)).mono (fun _ _ h => h.le (l2 := 1) (f2 := 20 + b.length) (wbytesP_len 2 (by omega) (by omega) b).1 (wbytesP_len 2 (by omega) (by omega) b).2)).mono ?_; intro e w3 hpost
  obtain ⟨qs3, P3, rfl, hs⟩ := HS.out.next hpost
  have HSN := Lib.hid hs
  clear hpost hs HS xc
  have HS := HSN
  clear HSN
  have xc : w3.cell? ⟨bx, 2, none⟩ = some (.slice lo l.length lc) := HS.out.cell rfl
  go_wp2_with fail
  refine (listk_if l hM p d _ [] _ _ (fun k => Q k ∧ k < w.heap.size) w3 3 lo lc HFL.out (KRels.upd HS.out.so.upd (fun k hk h => by have := HP1.out k h; have := HQ1.out k hk; omega) (fun _ h => h) l lo 0 HR1.out) (fun k hk h => by have := HQ1.out k hk; rcases HS.out.so.new k h with h | h; (have := HP1.out k h; omega); omega) HS.out.so.wr (by by_cases h : d < 0; (left; simp [h]); (right; omega)) HD.out (by omega) ⟨by have := HS.out.so.len; have := HFK.out; simp only [List.nil_append]; omega, by have := HS.out.so.size; have := HFK.out; simp only [List.nil_append]; omega, by have := HFK.out; omega⟩).mono ?_; intro e w4 hpost
  obtain ⟨qs4, P4, rfl, hs⟩ := HS.out.next hpost
  have HSN := Lib.hid hs
  clear hpost hs HS xc
  have HS := HSN
  clear HSN
  have xc : w4.cell? ⟨bx, 3, none⟩ = some (.int .u32 (n : Int)) := HS.out.cell rfl
  go_wp2_with fail
  refine (wv_var 4 n HS.out.so.wr (by have := HFN.out; omega) (by omega) (by omega) (by have := HS.out.so.len; have := HFK.out; simp only [List.nil_append]; omega) (by have := HS.out.so.size; have := HFK.out; simp only [List.nil_append]; omega)).mono ?_; intro e w5 hpost
  obtain ⟨qs5, P5, rfl, hs⟩ := HS.out.next hpost
  have HSN := Lib.hid hs
  clear hpost hs HS xc
  have HS := HSN
  clear HSN
  have xc : w5.cell? ⟨bx, 4, none⟩ = some (.string U) := HS.out.cell rfl
  go_wp2_with fail
  refine (wv_rest U u scF.tk 32 HS.out.so.wr HU.out.symm (by have := HFK.out; omega) (by have := HS.out.so.len; have := HFK.out; simp only [List.nil_append]; omega) (by have := HS.out.so.size; have := HFK.out; simp only [List.nil_append]; omega) HET.out (fun r w => sctakes_any r w)).mono ?_; intro e w6 hpost
  obtain ⟨qs6, P6, rfl, hs⟩ := HS.out.next hpost
  have HSN := Lib.hid hs
  clear hpost hs HS xc
  have HS := HSN
  clear HSN
  go_wp2_with fail
  obtain ⟨vo, P0, hwa, _⟩ := HS.out.so.wr
  have HWA := Lib.hid hwa
  have HLB := Lib.hid (And.intro HS.out.so.len HS.out.so.size)
  clear hwa
  refine (wend_any p d vo _ _ P0 _ HWA (by have := HLB.out.1; simp only [List.nil_append]; (have := HFK.out; omega)) (by have := HLB.out.2; simp only [List.nil_append]; (have := HFK.out; omega))).mono ?_; rintro e w9 ⟨hb9, hcase⟩
  have HB9 := Lib.hid (mar_below HB0.out HPE.out HB1.out HS.out.so.upd HP1.out hb9)
  have HBY := Lib.hid HS.out.so.bytes
  obtain ⟨bb, hbb⟩ : ∃ bb, (decide (d < 0) || !(((((true && uvalid a) && uvalid b) && kmays l d) && true) && munkOk scF.tk u d)) = bb := ⟨_, rfl⟩
  rw [hbb] at hcase HBY
  have HBB : Hid (mx = !bb) := Lib.hid (by
    rw [← HMX.out, ← hbb]
    show (decide (0 ≤ d) && (((uvalid a && uvalid b) && kmays l d) && munkOk scF.tk u d)) = _
    by_cases h : d < 0
    · rw [decide_eq_true h, decide_eq_false (by omega : ¬ 0 ≤ d)]; rfl
    · rw [decide_eq_false h, decide_eq_true (by omega : 0 ≤ d)]
      simp only [Bool.true_and, Bool.and_true, Bool.false_or, Bool.not_not])
  clear hb9 hbb
  cases bb with
  | true =>
    rw [if_pos rfl] at hcase
    obtain ⟨v, rfl, hec⟩ := hcase
    obtain ⟨T', y, rfl⟩ := hec.iface
    have HEC := Lib.hid hec
    clear hec
    go_wp2_with fail
    go_ret2
    refine ⟨HB9.out, ?_⟩
    rw [HBB.out, if_neg (by simp)]
    exact ⟨_, rfl, HEC.out⟩
  | false =>
    rw [if_neg (by simp)] at hcase
    subst hcase
    have hq9 := HBY.out rfl
    rw [List.nil_append, hq9]
    have hoe : ([] ++ (wbytesP 1 a).flatten ++ (wbytesP 2 b).flatten ++ kouts 3 l ++ (if n = 0 then [] else (rN 4 n).raw) ++ u : List UInt8) = ox := by
      rw [← HOX.out]
      unfold sc_out
      dsimp only
      rw [wbytesP_raw 1 (by omega) (by omega), wbytesP_raw 2 (by omega) (by omega), List.nil_append]
    rw [hoe]
    clear hoe hq9
    go_wp2_with fail
    go_ret2
    refine ⟨HB9.out, ?_⟩
    rw [HBB.out, if_pos (show (!false) = true from rfl)]
    rfl
end Go.Proofs.YtbdbmkmebeemoaaGreatDoor

namespace Go.Proofs.YtbdbmkmebeemoaaGreatDoor
open Go.RowKit

theorem text_out (num : Nat) (a : List UInt8) : ((textF num).out a).flatMap Rec.raw = if a = [] then [] else (rB num a).raw := by
  show (if a = [] then [] else [rB num a]).flatMap Rec.raw = _
  split
  · rfl
  · simp
theorem var_out (num n : Nat) : ((var32F num).out n).flatMap Rec.raw = if n = 0 then [] else (rN num n).raw := by
  show (if n = 0 then [] else [rN num n]).flatMap Rec.raw = _
  split
  · rfl
  · simp
theorem out_and (A B : Fld) (a : A.σ) (b : B.σ) : ((A.and B).out (a, b)).flatMap Rec.raw = (A.out a).flatMap Rec.raw ++ (B.out b).flatMap Rec.raw := List.flatMap_append
theorem sc_outF (a b : List UInt8) (l : List KV) (n : Nat) (u : List UInt8) : (scF.out (a, b, l, n)).flatMap Rec.raw ++ u = sc_out ((a, b, l, n), u) := by
  have h3 := out_and (listF 3 kvS) (var32F 4) l n
  rw [kvs_out, var_out] at h3
  have h2 := out_and (textF 2) ((listF 3 kvS).and (var32F 4)) b (l, n)
  rw [h3, text_out] at h2
  have h1 := out_and (textF 1) ((textF 2).and ((listF 3 kvS).and (var32F 4))) a (b, l, n)
  rw [h2, text_out] at h1
  rw [show (scF.out (a, b, l, n)).flatMap Rec.raw = _ from h1]
  show _ = (if a = [] then [] else (rB 1 a).raw) ++ (if b = [] then [] else (rB 2 b).raw) ++ kouts 3 l ++ (if n = 0 then [] else (rN 4 n).raw) ++ u
  simp only [List.append_assoc]
theorem sc_mayF (d : Int) (a b : List UInt8) (l : List KV) (n : Nat) (u : List UInt8) : sc_may d ((a, b, l, n), u) = (decide (0 ≤ d) && (scF.may d (a, b, l, n) && munkOk scF.tk u d)) := by
  have h : scF.may d (a, b, l, n) = ((uvalid a && uvalid b) && kmays l d) := by
    show (uvalid a && (uvalid b && ((listF 3 kvS).may d l && true))) = _
    rw [kvs_may, Bool.and_true, Bool.and_assoc]
  rw [h]; rfl
theorem sc_fitF {a b : List UInt8} {l : List KV} {n : Nat} {u : List UInt8} (h : sc_fit ((a, b, l, n), u)) : scF.fit (a, b, l, n) ∧ scF.wt (a, b, l, n) ≤ 1000000 := by
  obtain ⟨h3, h4, h5⟩ := h
  dsimp only at h3 h4 h5
  refine ⟨⟨by show a.length ≤ _; omega, by show b.length ≤ _; omega, kvs_fit2 h3, h4⟩, ?_⟩
  show a.length + (b.length + ((listF 3 kvS).wt l + 0)) ≤ _
  rw [kvs_wt]; omega
section
variable {F : Fld}
/-- read and written, of any message -/
theorem fld_back (hF : F.Ok) {s : F.σ} {u : List UInt8} {d : Int} (hf : F.fit s) (hw : F.wt s ≤ 1000000) (hd : 0 ≤ d) (hm : F.may d s = true) (hu : munkOk F.tk u d = true) : mread F.tk (F.step d) F.z ((F.out s).flatMap Rec.raw ++ u) d = .ok (s, u) :=
  Fld.msg_back hF hf hw hd (hF.recs s hf hw) (fun _ => rfl) d hm hd hu
/-- what was read may be -/
theorem fld_twice (hF : F.Ok) {l u : List UInt8} {s : F.σ} {d : Int} (hl : l.length ≤ 500000) (h : mread F.tk (F.step d) F.z l d = .ok (s, u)) : 0 ≤ d ∧ F.may d s = true ∧ munkOk F.tk u d = true ∧ F.fit s ∧ F.wt s + u.length ≤ F.w0 + 51 * l.length := by
  obtain ⟨h0, rs, h1, h2, h3, h4, h5⟩ := mread_inv h
  have h6 := tlen_munk F.tk rs
  rw [h4, ← h2] at h6
  have hi := mfold_tlen (d := d) 1000000 (F.inv d) (hF.go d) rs F.z s 0 h3 (hF.start d) (by omega) h1
  rw [Nat.zero_add] at hi
  obtain ⟨e1, e2, e3⟩ := hF.ends d s _ h0 hi (by omega)
  exact ⟨h0, e1, h5, e2, by omega⟩
/-- errors do not look at what was read before -/
def Fld.Free (F : Fld) : Prop := ∀ d s s' r y, F.step d s r = .ok y → ∃ y', F.step d s' r = .ok y'
theorem Fld.Free.rd (h : F.Free) {d : Int} : ∀ (rs : List Rec) (s s' : F.σ) {y : F.σ}, F.rd d s rs = .ok y → ∃ y', F.rd d s' rs = .ok y'
  | [], _, s', _, _ => ⟨s', rfl⟩
  | r :: rs, s, s', y, hy => by
    have hy : mfold F.tk (F.step d) s (r :: rs) = .ok y := hy
    show ∃ y', mfold F.tk (F.step d) s' (r :: rs) = .ok y'
    simp only [mfold] at hy ⊢
    split at hy
    · rename_i hk
      rw [if_pos hk]
      split at hy
      · cases hy
      · rename_i s1 hs
        obtain ⟨s2, h2⟩ := h d s s' r s1 hs
        rw [h2]
        exact Fld.Free.rd h rs s1 s2 hy
    · rename_i hk
      rw [if_neg hk]
      exact Fld.Free.rd h rs s s' hy
end
theorem Fld.Free.and {A B : Fld} (hA : A.Free) (hB : B.Free) : (A.and B).Free := fun d s s' r y hy => by
  obtain ⟨a, b⟩ := s
  obtain ⟨a', b'⟩ := s'
  cases hk : A.tk r with
  | true =>
    cases ha : A.step d a r with
    | error c => rw [Fld.and_1no hk ha] at hy; cases hy
    | ok a1 =>
      obtain ⟨a2, h2⟩ := hA d a a' r a1 ha
      exact ⟨_, Fld.and_1ok hk h2⟩
  | false =>
    cases hb : B.step d b r with
    | error c => rw [Fld.and_2no hk hb] at hy; cases hy
    | ok b1 =>
      obtain ⟨b2, h2⟩ := hB d b b' r b1 hb
      exact ⟨_, Fld.and_2ok hk h2⟩
theorem sc_back {a b : List UInt8} {l : List KV} {n : Nat} {u : List UInt8} {d : Int} (hf : sc_fit ((a, b, l, n), u)) (hm : sc_may d ((a, b, l, n), u) = true) : scrd (sc_out ((a, b, l, n), u)) d = .ok ((a, b, l, n), u) := by
  rw [sc_mayF] at hm
  simp only [Bool.and_eq_true, decide_eq_true_eq] at hm
  have h := fld_back scF_ok (s := (a, b, l, n)) (u := u) (sc_fitF hf).1 (sc_fitF hf).2 hm.1 hm.2.1 hm.2.2
  exact (congrArg (fun t => mread (σ := List UInt8 × List UInt8 × List KV × Nat) scF.tk (scF.step d) scF.z t d) (sc_outF a b l n u)).symm.trans h
theorem sc_twice {a b : List UInt8} {l : List KV} {n : Nat} {t u : List UInt8} {d : Int} (hl : t.length ≤ 6000) (h : scrd t d = .ok ((a, b, l, n), u)) : sc_may d ((a, b, l, n), u) = true ∧ sc_fit ((a, b, l, n), u) := by
  obtain ⟨h0, h1, h2, h3, h4⟩ := fld_twice scF_ok (s := (a, b, l, n)) (by omega) h
  refine ⟨?_, ?_⟩
  · rw [sc_mayF, h1, h2, decide_eq_true h0]; rfl
  · have h5 : a.length + (b.length + ((listF 3 kvS).wt l + 0)) + u.length ≤ 0 + (0 + (0 + 0)) + 51 * t.length := h4
    rw [kvs_wt] at h5
    exact ⟨kvs_fit h3.2.2.1, h3.2.2.2, by show a.length + b.length + ksw l + u.length ≤ _; omega⟩
end Go.Proofs.YtbdbmkmebeemoaaGreatDoor
namespace Go.Proofs.YtbdbmkmebeemoaaGreatDoor
open Go.RowKit

theorem row5 {w : World} {g : Nat} {c0 c1 c2 c3 c4 : Value} {T : TypeId} {fr : Nat × Nat} (h : w.heap[g]? = some (.cells #[c0, c1, c2, c3, c4] T fr)) : w.cell? ⟨g, 0, none⟩ = some c0 ∧ w.cell? ⟨g, 1, none⟩ = some c1 ∧ w.cell? ⟨g, 2, none⟩ = some c2 ∧ w.cell? ⟨g, 3, none⟩ = some c3 ∧ w.cell? ⟨g, 4, none⟩ = some c4 := ⟨row_cell h (j := 0) rfl, row_cell h (j := 1) rfl, row_cell h (j := 2) rfl, row_cell h (j := 3) rfl, row_cell h (j := 4) rfl⟩
theorem first_rd : scrd [10, 1, 97] 0 = .ok (([97], [], [], 0), []) := by
  have h := sc_back (a := [97]) (b := []) (l := []) (n := 0) (u := []) (d := 0) ⟨by rw [ksfit]; trivial, by show 0 < _; omega, by rw [ksw]; decide⟩ (by kernel_rfl)
  rwa [show sc_out (([97], [], [], 0), []) = [10, 1, 97] by kernel_rfl] at h
theorem first_mar (w : World) : Calls Tryz.prog 16 #[.agg #[.string ⟨#[97]⟩, .string ⟨#[]⟩, .slice none 0 0, .int .u32 0, .string ⟨#[]⟩], .int .i64 0] w fun e w' => e = .returned (.tuple #[.string ⟨#[10, 1, 97]⟩, .nilIface]) ∧ Below w.heap.size w w' := by
  refine (sc_marshal_if (([97], [], [], 0), []) (Lib.hid fun h => absurd rfl h) [.string ⟨#[97]⟩, .string ⟨#[]⟩, .slice none 0 0, .int .u32 0, .string ⟨#[]⟩] (fun _ => False) 0 w ⟨by rw [ksfit]; trivial, by show 0 < _; omega, by rw [ksw]; decide⟩ ⟨none, 0, rfl, by rw [KRels]; trivial⟩ (by omega)).mono ?_
  rintro e w' ⟨hb, h⟩
  rw [show sc_may 0 (([97], [], [], 0), []) = true by kernel_rfl, if_pos rfl, show sc_out (([97], [], [], 0), []) = [10, 1, 97] by kernel_rfl] at h
  exact ⟨h, hb⟩
theorem first_marR (w : World) : Calls Tryz.prog 26 #[.agg #[.slice none 0 0, .int .u32 1, .string ⟨#[]⟩], .int .i64 0] w fun e w' => e = .returned (.tuple #[.string ⟨#[16, 1]⟩, .nilIface]) ∧ Below w.heap.size w w' := by
  refine (rs_marshal_if (([], 1), []) (Lib.hid fun h => absurd rfl h) [.slice none 0 0, .int .u32 1, .string ⟨#[]⟩] (fun _ => False) 0 w ⟨by rw [ksfit]; trivial, by show 1 < _; omega, by rw [ksw]; decide⟩ ⟨none, 0, rfl, by rw [KRels]; trivial⟩ (by omega)).mono ?_
  rintro e w' ⟨hb, h⟩
  rw [show rs_may 0 (([], 1), []) = true by kernel_rfl, if_pos rfl, show rs_out (([], 1), []) = [16, 1] by kernel_rfl] at h
  exact ⟨h, hb⟩
theorem first_no3 {r : Rec} (hr : ∀ rs, wall (⟨#[10, 1, 97]⟩ : ByteArray).data.toList 0 = .ok rs → r ∈ rs) (h3 : r.num = 3) : UKey := by
  have h := hr [⟨1, 2, 0, [97], [10, 1, 97]⟩] (by kernel_rfl)
  rw [List.mem_singleton.1 h] at h3
  exact absurd h3 (by decide)
set_option maxRecDepth 1000000 in
set_option maxHeartbeats 8000000 in
theorem first10 (w : World) : Calls Tryz.prog 9 #[] w fun e w' => e = .returned (.bool true) ∧ Below w.heap.size w w' := by
  have HUN := Lib.hid (fun w' => unsc_if ⟨#[10, 1, 97]⟩ 0 (Lib.hid fun r hr h3 => first_no3 hr h3) w' (by decide) (by omega))
  rw [show (⟨#[10, 1, 97]⟩ : ByteArray).data.toList = [10, 1, 97] from rfl, first_rd] at HUN
  go_enter Tryz.func9, Tryz.ntmps9
  go_wp2_with fail
  refine (first_mar w).mono ?_; rintro e w1 ⟨rfl, hb1⟩
  have HB1 := Lib.hid hb1
  clear hb1
  go_wp2_with fail
  refine (HUN.out w1).mono ?_; rintro e w2 ⟨hb2, cs, rfl, lo, lc, rfl, _⟩
  have HB2 := Lib.hid (below_step HB1.out hb2)
  clear hb2
  dsimp only [strV]
  go_wp2_with fail
  obtain ⟨bl, hbl⟩ : ∃ b, w2.heap.size = b := ⟨_, rfl⟩
  obtain ⟨W3, hW⟩ : ∃ W, w2.alloc (.cells #[.string ⟨#[97]⟩, .string ⟨#[]⟩, .slice lo 0 lc, .int .u32 0, .string ⟨#[]⟩] 26) = W := ⟨_, rfl⟩
  have hb3 : Below w2.heap.size w2 W3 := by rw [← hW]; exact below_new _ _
  have hr : W3.heap[bl]? = some (.cells #[.string ⟨#[97]⟩, .string ⟨#[]⟩, .slice lo 0 lc, .int .u32 0, .string ⟨#[]⟩] 26 (0, 0)) := by rw [← hW, ← hbl]; exact new_row _ _ _
  have HB3 := Lib.hid (below_step HB2.out hb3)
  rw [hW, hbl]
  clear hW hbl hb3
  refine (first_marR W3).mono ?_; rintro e w4 ⟨rfl, hb4⟩
  have HB4 := Lib.hid (below_step HB3.out hb4)
  have hx0 : w4.cell? ⟨bl, 0, none⟩ = some (.string ⟨#[97]⟩) := row_cell ((hb4.block _ (row_lt hr)).trans hr) (j := 0) rfl
  clear hb4 hr
  go_wp2_with fail
  go_ret
  exact ⟨rfl, HB4.out⟩
end Go.Proofs.YtbdbmkmebeemoaaGreatDoor

namespace Go.Proofs.YtbdbmkmebeemoaaGreatDoor
open Go.RowKit

mutual
theorem vlim_of : ∀ (x : Val), vw x ≤ 9223372036854775807 → vlim x
  | .mk k s b n l m i u, h => by
    rw [vw] at h
    rw [vlim]
    have h1 := vsw_len l
    have h2 := ksw_len m
    exact ⟨by omega, by omega, vslim_ofw l (by omega), kslim_ofw m (by omega)⟩
theorem klim_of : ∀ (x : KV), kw x ≤ 9223372036854775807 → klim x
  | .mk key has v u, h => by
    rw [kw] at h
    rw [klim]
    exact vlim_of v (by omega)
theorem vslim_ofw : ∀ (l : List Val), vsw l ≤ 9223372036854775807 → vslim l
  | [], _ => by rw [vslim]; trivial
  | x :: l, h => by
    rw [vsw] at h
    rw [vslim]
    exact ⟨vlim_of x (by omega), vslim_ofw l (by omega)⟩
theorem kslim_ofw : ∀ (l : List KV), ksw l ≤ 9223372036854775807 → kslim l
  | [], _ => by rw [kslim]; trivial
  | x :: l, h => by
    rw [ksw] at h
    rw [kslim]
    exact ⟨klim_of x (by omega), kslim_ofw l (by omega)⟩
end
theorem rN_len20 (num n : Nat) : (rN num n).raw.length ≤ 20 := by
  show (vput (8 * num + 0) ++ vput n).length ≤ 20
  rw [List.length_append]
  have := vput_le10 (8 * num + 0)
  have := vput_le10 n
  omega
theorem sc_lim {x : (List UInt8 × List UInt8 × List KV × Nat) × List UInt8} (h : sc_fit x) : kslim x.1.2.2.1 ∧ x.1.2.2.1.length ≤ 9223372036854775807 ∧ (sc_out x).length ≤ 500000 := by
  obtain ⟨⟨a, b, l, n⟩, u⟩ := x
  obtain ⟨_, _, h3⟩ := h
  dsimp only at h3
  have h1 := ksw_len l
  refine ⟨kslim_ofw l (by omega), by show l.length ≤ _; omega, ?_⟩
  show ((if a = [] then [] else (rB 1 a).raw) ++ (if b = [] then [] else (rB 2 b).raw) ++ kouts 3 l ++ (if n = 0 then [] else (rN 4 n).raw) ++ u).length ≤ _
  have h4 := kouts_le 3 (by omega) l
  have h5 := rN_len20 4 n
  have h6 := rB_len20 1 a
  have h7 := rB_len20 2 b
  simp only [List.length_append]
  have e1 : (if a = [] then [] else (rB 1 a).raw).length ≤ 20 + a.length := by
    split
    · simp
    · omega
  have e2 : (if b = [] then [] else (rB 2 b).raw).length ≤ 20 + b.length := by
    split
    · simp
    · omega
  have e3 : (if n = 0 then [] else (rN 4 n).raw).length ≤ 20 := by
    split
    · simp
    · omega
  omega
end Go.Proofs.YtbdbmkmebeemoaaGreatDoor

namespace Go.Proofs.YtbdbmkmebeemoaaGreatDoor
open Go.RowKit

set_option maxRecDepth 1000000 in
set_option maxHeartbeats 8000000 in
theorem hkeys_step (l : List KV) (hk : Hid (∀ x ∈ l, SK 72 x)) : SKs 42 l := by
  intro m lo mo lc mc P Q w hl hlim ha hb
  have HA := Lib.hid ha
  have HB := Lib.hid hb
  have HLIM := Lib.hid hlim
  clear ha hb hlim
  by_cases hlen : l.length = m.length
  case neg =>
    have HR : Hid (alike l m = false) := Lib.hid (alike_no fun h => hlen (by rw [h]))
    have d1 : ((l.length : Int) != (m.length : Int)) = true := by rw [bne_iff_ne]; omega
    rw [HR.out]
    clear hlen
    go_enter Tryz.func42, Tryz.ntmps42
    go_wp2_with fail
    go_ret
    exact ⟨rfl, Below.refl _ _⟩
  case pos =>
    obtain ⟨r, HR⟩ : ∃ r, Hid (alike l m = r) := ⟨_, Lib.hid rfl⟩
    rw [HR.out]
    have d1 : ((l.length : Int) != (m.length : Int)) = false := by rw [bne_eq_false_iff_eq]; omega
    have HLEN := Lib.hid hlen
    clear hlen
    go_enter Tryz.func42, Tryz.ntmps42
    go_wp2_with fail
    go_loopg [5] l.length (fun k i wr => ∃ j : Nat, i = .int .i64 (j : Int) ∧ j + k = l.length ∧ Below w.heap.size w wr ∧ Hid (l.take j = m.take j))
    case atStart => exact ⟨0, rfl, by omega, Below.refl _ _, Lib.hid rfl⟩
    case round =>
      obtain ⟨j, rfl, hj, hbr, HEQ⟩ := hrel
      have HBR := Lib.hid hbr
      have HJ := Lib.hid hj
      clear hbr hj
      by_cases hlt : j < l.length
      · have hltm : j < m.length := by have := HLEN.out; omega
        obtain ⟨ga, oa, ca, rfl, hga, hca, hra⟩ := krels_at0 (HA.out.below HBR.out) j hlt
        obtain ⟨gb, ob, cb, rfl, hgb, hcb, hrb⟩ := krels_at0 (HB.out.below HBR.out) j hltm
        have HRA := Lib.hid hra
        have HRB := Lib.hid hrb
        obtain ⟨K0, h0, k, S1, b0, n, l1, ln, lc1, m1, mn, mc1, I0, U0, U1, rfl⟩ := hra.form
        obtain ⟨K3, h2, k2, S2, b2, n2, l2, ln2, lc2, m2, mn2, mc2, I2, U2, U3, rfl⟩ := hrb.form
        have HCA := Lib.hid hca
        have HCB := Lib.hid hcb
        clear hra hrb hca hcb
        go_wp2_with fail
        have ea0 : ∀ a : World, Two a ga (oa + 11 * j) [.string K0, .bool h0, .int .i64 k, .string S1, .bool b0, .int .u64 n, .slice l1 ln lc1, .slice m1 mn mc1, .string I0, .string U0, .string U1] gb (ob + 11 * j) [.string K3, .bool h2, .int .i64 k2, .string S2, .bool b2, .int .u64 n2, .slice l2 ln2 lc2, .slice m2 mn2 mc2, .string I2, .string U2, .string U3] → a.cell? ⟨ga, oa + j * 11, none⟩ = some (.string K0) := fun a ha => by have := ha.1 0 (by simp); rw [show oa + j * 11 = oa + 11 * j + 0 by omega, this]; rfl
        have eb0 : ∀ a : World, Two a ga (oa + 11 * j) [.string K0, .bool h0, .int .i64 k, .string S1, .bool b0, .int .u64 n, .slice l1 ln lc1, .slice m1 mn mc1, .string I0, .string U0, .string U1] gb (ob + 11 * j) [.string K3, .bool h2, .int .i64 k2, .string S2, .bool b2, .int .u64 n2, .slice l2 ln2 lc2, .slice m2 mn2 mc2, .string I2, .string U2, .string U3] → a.cell? ⟨gb, ob + j * 11, none⟩ = some (.string K3) := fun a ha => by have := ha.2 0 (by simp); rw [show ob + j * 11 = ob + 11 * j + 0 by omega, this]; rfl
        have ea1 : ∀ a : World, Two a ga (oa + 11 * j) [.string K0, .bool h0, .int .i64 k, .string S1, .bool b0, .int .u64 n, .slice l1 ln lc1, .slice m1 mn mc1, .string I0, .string U0, .string U1] gb (ob + 11 * j) [.string K3, .bool h2, .int .i64 k2, .string S2, .bool b2, .int .u64 n2, .slice l2 ln2 lc2, .slice m2 mn2 mc2, .string I2, .string U2, .string U3] → a.cell? ⟨ga, oa + j * 11 + 1, none⟩ = some (.bool h0) := fun a ha => by have := ha.1 1 (by simp); rw [show oa + j * 11 + 1 = oa + 11 * j + 1 by omega, this]; rfl
        have eb1 : ∀ a : World, Two a ga (oa + 11 * j) [.string K0, .bool h0, .int .i64 k, .string S1, .bool b0, .int .u64 n, .slice l1 ln lc1, .slice m1 mn mc1, .string I0, .string U0, .string U1] gb (ob + 11 * j) [.string K3, .bool h2, .int .i64 k2, .string S2, .bool b2, .int .u64 n2, .slice l2 ln2 lc2, .slice m2 mn2 mc2, .string I2, .string U2, .string U3] → a.cell? ⟨gb, ob + j * 11 + 1, none⟩ = some (.bool h2) := fun a ha => by have := ha.2 1 (by simp); rw [show ob + j * 11 + 1 = ob + 11 * j + 1 by omega, this]; rfl
        have ea2 : ∀ a : World, Two a ga (oa + 11 * j) [.string K0, .bool h0, .int .i64 k, .string S1, .bool b0, .int .u64 n, .slice l1 ln lc1, .slice m1 mn mc1, .string I0, .string U0, .string U1] gb (ob + 11 * j) [.string K3, .bool h2, .int .i64 k2, .string S2, .bool b2, .int .u64 n2, .slice l2 ln2 lc2, .slice m2 mn2 mc2, .string I2, .string U2, .string U3] → a.cell? ⟨ga, oa + j * 11 + 2, none⟩ = some (.int .i64 k) := fun a ha => by have := ha.1 2 (by simp); rw [show oa + j * 11 + 2 = oa + 11 * j + 2 by omega, this]; rfl
        have eb2 : ∀ a : World, Two a ga (oa + 11 * j) [.string K0, .bool h0, .int .i64 k, .string S1, .bool b0, .int .u64 n, .slice l1 ln lc1, .slice m1 mn mc1, .string I0, .string U0, .string U1] gb (ob + 11 * j) [.string K3, .bool h2, .int .i64 k2, .string S2, .bool b2, .int .u64 n2, .slice l2 ln2 lc2, .slice m2 mn2 mc2, .string I2, .string U2, .string U3] → a.cell? ⟨gb, ob + j * 11 + 2, none⟩ = some (.int .i64 k2) := fun a ha => by have := ha.2 2 (by simp); rw [show ob + j * 11 + 2 = ob + 11 * j + 2 by omega, this]; rfl
        have ea3 : ∀ a : World, Two a ga (oa + 11 * j) [.string K0, .bool h0, .int .i64 k, .string S1, .bool b0, .int .u64 n, .slice l1 ln lc1, .slice m1 mn mc1, .string I0, .string U0, .string U1] gb (ob + 11 * j) [.string K3, .bool h2, .int .i64 k2, .string S2, .bool b2, .int .u64 n2, .slice l2 ln2 lc2, .slice m2 mn2 mc2, .string I2, .string U2, .string U3] → a.cell? ⟨ga, oa + j * 11 + 3, none⟩ = some (.string S1) := fun a ha => by have := ha.1 3 (by simp); rw [show oa + j * 11 + 3 = oa + 11 * j + 3 by omega, this]; rfl
        have eb3 : ∀ a : World, Two a ga (oa + 11 * j) [.string K0, .bool h0, .int .i64 k, .string S1, .bool b0, .int .u64 n, .slice l1 ln lc1, .slice m1 mn mc1, .string I0, .string U0, .string U1] gb (ob + 11 * j) [.string K3, .bool h2, .int .i64 k2, .string S2, .bool b2, .int .u64 n2, .slice l2 ln2 lc2, .slice m2 mn2 mc2, .string I2, .string U2, .string U3] → a.cell? ⟨gb, ob + j * 11 + 3, none⟩ = some (.string S2) := fun a ha => by have := ha.2 3 (by simp); rw [show ob + j * 11 + 3 = ob + 11 * j + 3 by omega, this]; rfl
        have ea4 : ∀ a : World, Two a ga (oa + 11 * j) [.string K0, .bool h0, .int .i64 k, .string S1, .bool b0, .int .u64 n, .slice l1 ln lc1, .slice m1 mn mc1, .string I0, .string U0, .string U1] gb (ob + 11 * j) [.string K3, .bool h2, .int .i64 k2, .string S2, .bool b2, .int .u64 n2, .slice l2 ln2 lc2, .slice m2 mn2 mc2, .string I2, .string U2, .string U3] → a.cell? ⟨ga, oa + j * 11 + 4, none⟩ = some (.bool b0) := fun a ha => by have := ha.1 4 (by simp); rw [show oa + j * 11 + 4 = oa + 11 * j + 4 by omega, this]; rfl
        have eb4 : ∀ a : World, Two a ga (oa + 11 * j) [.string K0, .bool h0, .int .i64 k, .string S1, .bool b0, .int .u64 n, .slice l1 ln lc1, .slice m1 mn mc1, .string I0, .string U0, .string U1] gb (ob + 11 * j) [.string K3, .bool h2, .int .i64 k2, .string S2, .bool b2, .int .u64 n2, .slice l2 ln2 lc2, .slice m2 mn2 mc2, .string I2, .string U2, .string U3] → a.cell? ⟨gb, ob + j * 11 + 4, none⟩ = some (.bool b2) := fun a ha => by have := ha.2 4 (by simp); rw [show ob + j * 11 + 4 = ob + 11 * j + 4 by omega, this]; rfl
        have ea5 : ∀ a : World, Two a ga (oa + 11 * j) [.string K0, .bool h0, .int .i64 k, .string S1, .bool b0, .int .u64 n, .slice l1 ln lc1, .slice m1 mn mc1, .string I0, .string U0, .string U1] gb (ob + 11 * j) [.string K3, .bool h2, .int .i64 k2, .string S2, .bool b2, .int .u64 n2, .slice l2 ln2 lc2, .slice m2 mn2 mc2, .string I2, .string U2, .string U3] → a.cell? ⟨ga, oa + j * 11 + 5, none⟩ = some (.int .u64 n) := fun a ha => by have := ha.1 5 (by simp); rw [show oa + j * 11 + 5 = oa + 11 * j + 5 by omega, this]; rfl
        have eb5 : ∀ a : World, Two a ga (oa + 11 * j) [.string K0, .bool h0, .int .i64 k, .string S1, .bool b0, .int .u64 n, .slice l1 ln lc1, .slice m1 mn mc1, .string I0, .string U0, .string U1] gb (ob + 11 * j) [.string K3, .bool h2, .int .i64 k2, .string S2, .bool b2, .int .u64 n2, .slice l2 ln2 lc2, .slice m2 mn2 mc2, .string I2, .string U2, .string U3] → a.cell? ⟨gb, ob + j * 11 + 5, none⟩ = some (.int .u64 n2) := fun a ha => by have := ha.2 5 (by simp); rw [show ob + j * 11 + 5 = ob + 11 * j + 5 by omega, this]; rfl
        have ea6 : ∀ a : World, Two a ga (oa + 11 * j) [.string K0, .bool h0, .int .i64 k, .string S1, .bool b0, .int .u64 n, .slice l1 ln lc1, .slice m1 mn mc1, .string I0, .string U0, .string U1] gb (ob + 11 * j) [.string K3, .bool h2, .int .i64 k2, .string S2, .bool b2, .int .u64 n2, .slice l2 ln2 lc2, .slice m2 mn2 mc2, .string I2, .string U2, .string U3] → a.cell? ⟨ga, oa + j * 11 + 6, none⟩ = some (.slice l1 ln lc1) := fun a ha => by have := ha.1 6 (by simp); rw [show oa + j * 11 + 6 = oa + 11 * j + 6 by omega, this]; rfl
        have eb6 : ∀ a : World, Two a ga (oa + 11 * j) [.string K0, .bool h0, .int .i64 k, .string S1, .bool b0, .int .u64 n, .slice l1 ln lc1, .slice m1 mn mc1, .string I0, .string U0, .string U1] gb (ob + 11 * j) [.string K3, .bool h2, .int .i64 k2, .string S2, .bool b2, .int .u64 n2, .slice l2 ln2 lc2, .slice m2 mn2 mc2, .string I2, .string U2, .string U3] → a.cell? ⟨gb, ob + j * 11 + 6, none⟩ = some (.slice l2 ln2 lc2) := fun a ha => by have := ha.2 6 (by simp); rw [show ob + j * 11 + 6 = ob + 11 * j + 6 by omega, this]; rfl
        have ea7 : ∀ a : World, Two a ga (oa + 11 * j) [.string K0, .bool h0, .int .i64 k, .string S1, .bool b0, .int .u64 n, .slice l1 ln lc1, .slice m1 mn mc1, .string I0, .string U0, .string U1] gb (ob + 11 * j) [.string K3, .bool h2, .int .i64 k2, .string S2, .bool b2, .int .u64 n2, .slice l2 ln2 lc2, .slice m2 mn2 mc2, .string I2, .string U2, .string U3] → a.cell? ⟨ga, oa + j * 11 + 7, none⟩ = some (.slice m1 mn mc1) := fun a ha => by have := ha.1 7 (by simp); rw [show oa + j * 11 + 7 = oa + 11 * j + 7 by omega, this]; rfl
        have eb7 : ∀ a : World, Two a ga (oa + 11 * j) [.string K0, .bool h0, .int .i64 k, .string S1, .bool b0, .int .u64 n, .slice l1 ln lc1, .slice m1 mn mc1, .string I0, .string U0, .string U1] gb (ob + 11 * j) [.string K3, .bool h2, .int .i64 k2, .string S2, .bool b2, .int .u64 n2, .slice l2 ln2 lc2, .slice m2 mn2 mc2, .string I2, .string U2, .string U3] → a.cell? ⟨gb, ob + j * 11 + 7, none⟩ = some (.slice m2 mn2 mc2) := fun a ha => by have := ha.2 7 (by simp); rw [show ob + j * 11 + 7 = ob + 11 * j + 7 by omega, this]; rfl
        have ea8 : ∀ a : World, Two a ga (oa + 11 * j) [.string K0, .bool h0, .int .i64 k, .string S1, .bool b0, .int .u64 n, .slice l1 ln lc1, .slice m1 mn mc1, .string I0, .string U0, .string U1] gb (ob + 11 * j) [.string K3, .bool h2, .int .i64 k2, .string S2, .bool b2, .int .u64 n2, .slice l2 ln2 lc2, .slice m2 mn2 mc2, .string I2, .string U2, .string U3] → a.cell? ⟨ga, oa + j * 11 + 8, none⟩ = some (.string I0) := fun a ha => by have := ha.1 8 (by simp); rw [show oa + j * 11 + 8 = oa + 11 * j + 8 by omega, this]; rfl
        have eb8 : ∀ a : World, Two a ga (oa + 11 * j) [.string K0, .bool h0, .int .i64 k, .string S1, .bool b0, .int .u64 n, .slice l1 ln lc1, .slice m1 mn mc1, .string I0, .string U0, .string U1] gb (ob + 11 * j) [.string K3, .bool h2, .int .i64 k2, .string S2, .bool b2, .int .u64 n2, .slice l2 ln2 lc2, .slice m2 mn2 mc2, .string I2, .string U2, .string U3] → a.cell? ⟨gb, ob + j * 11 + 8, none⟩ = some (.string I2) := fun a ha => by have := ha.2 8 (by simp); rw [show ob + j * 11 + 8 = ob + 11 * j + 8 by omega, this]; rfl
        have ea9 : ∀ a : World, Two a ga (oa + 11 * j) [.string K0, .bool h0, .int .i64 k, .string S1, .bool b0, .int .u64 n, .slice l1 ln lc1, .slice m1 mn mc1, .string I0, .string U0, .string U1] gb (ob + 11 * j) [.string K3, .bool h2, .int .i64 k2, .string S2, .bool b2, .int .u64 n2, .slice l2 ln2 lc2, .slice m2 mn2 mc2, .string I2, .string U2, .string U3] → a.cell? ⟨ga, oa + j * 11 + 9, none⟩ = some (.string U0) := fun a ha => by have := ha.1 9 (by simp); rw [show oa + j * 11 + 9 = oa + 11 * j + 9 by omega, this]; rfl
        have eb9 : ∀ a : World, Two a ga (oa + 11 * j) [.string K0, .bool h0, .int .i64 k, .string S1, .bool b0, .int .u64 n, .slice l1 ln lc1, .slice m1 mn mc1, .string I0, .string U0, .string U1] gb (ob + 11 * j) [.string K3, .bool h2, .int .i64 k2, .string S2, .bool b2, .int .u64 n2, .slice l2 ln2 lc2, .slice m2 mn2 mc2, .string I2, .string U2, .string U3] → a.cell? ⟨gb, ob + j * 11 + 9, none⟩ = some (.string U2) := fun a ha => by have := ha.2 9 (by simp); rw [show ob + j * 11 + 9 = ob + 11 * j + 9 by omega, this]; rfl
        have ea10 : ∀ a : World, Two a ga (oa + 11 * j) [.string K0, .bool h0, .int .i64 k, .string S1, .bool b0, .int .u64 n, .slice l1 ln lc1, .slice m1 mn mc1, .string I0, .string U0, .string U1] gb (ob + 11 * j) [.string K3, .bool h2, .int .i64 k2, .string S2, .bool b2, .int .u64 n2, .slice l2 ln2 lc2, .slice m2 mn2 mc2, .string I2, .string U2, .string U3] → a.cell? ⟨ga, oa + j * 11 + 10, none⟩ = some (.string U1) := fun a ha => by have := ha.1 10 (by simp); rw [show oa + j * 11 + 10 = oa + 11 * j + 10 by omega, this]; rfl
        have eb10 : ∀ a : World, Two a ga (oa + 11 * j) [.string K0, .bool h0, .int .i64 k, .string S1, .bool b0, .int .u64 n, .slice l1 ln lc1, .slice m1 mn mc1, .string I0, .string U0, .string U1] gb (ob + 11 * j) [.string K3, .bool h2, .int .i64 k2, .string S2, .bool b2, .int .u64 n2, .slice l2 ln2 lc2, .slice m2 mn2 mc2, .string I2, .string U2, .string U3] → a.cell? ⟨gb, ob + j * 11 + 10, none⟩ = some (.string U3) := fun a ha => by have := ha.2 10 (by simp); rw [show ob + j * 11 + 10 = ob + 11 * j + 10 by omega, this]; rfl
        obtain ⟨D, hD⟩ : ∃ D, wr.drew = D := ⟨_, rfl⟩
        have HBD : Hid (Below wr.heap.size wr D) := Lib.hid (by rw [← hD]; exact (Below.refl _ _).drew)
        have hS : Two D ga (oa + 11 * j) [.string K0, .bool h0, .int .i64 k, .string S1, .bool b0, .int .u64 n, .slice l1 ln lc1, .slice m1 mn mc1, .string I0, .string U0, .string U1] gb (ob + 11 * j) [.string K3, .bool h2, .int .i64 k2, .string S2, .bool b2, .int .u64 n2, .slice l2 ln2 lc2, .slice m2 mn2 mc2, .string I2, .string U2, .string U3] := ⟨HCA.out.below HBD.out hga, HCB.out.below HBD.out hgb⟩
        have hne : Nonempty {w' : World // Two w' ga (oa + 11 * j) [.string K0, .bool h0, .int .i64 k, .string S1, .bool b0, .int .u64 n, .slice l1 ln lc1, .slice m1 mn mc1, .string I0, .string U0, .string U1] gb (ob + 11 * j) [.string K3, .bool h2, .int .i64 k2, .string S2, .bool b2, .int .u64 n2, .slice l2 ln2 lc2, .slice m2 mn2 mc2, .string I2, .string U2, .string U3]} := ⟨⟨_, hS⟩⟩
        refine wp_region_seq (S := fun w' => Two w' ga (oa + 11 * j) [.string K0, .bool h0, .int .i64 k, .string S1, .bool b0, .int .u64 n, .slice l1 ln lc1, .slice m1 mn mc1, .string I0, .string U0, .string U1] gb (ob + 11 * j) [.string K3, .bool h2, .int .i64 k2, .string S2, .bool b2, .int .u64 n2, .slice l2 ln2 lc2, .slice m2 mn2 mc2, .string I2, .string U2, .string U3]) [(0, true), (1, true), (2, true), (3, true), (4, true), (5, true), (6, true), (7, true), (8, false), (9, true)] (by kernel_rfl) (by kernel_rfl) (by kernel_rfl) (by kernel_rfl) (by rw [hD]; exact hS) ?_
        rw [hD]
        clear hD
        iterate 2 (refine seq_take _ rfl (fun K2 hK => ?_); go_simp; (first | refine hK _ ?_ | refine ⟨_, fun _ _ => rfl, hK _ ?_⟩); clear hK K2)
        refine seq_take _ rfl (fun K2 hK => ?_); go_simp
        (first | refine hK _ ?_ | refine ⟨.pointer (some ⟨ga, oa + j * 11, none⟩), fun _ _ => if_pos (by omega), hK _ ?_⟩)
        clear hK K2
        refine seq_take _ rfl (fun K2 hK => ?_); go_simp
        refine ⟨.agg #[.string K0, .bool h0, .int .i64 k, .string S1, .bool b0, .int .u64 n, .slice l1 ln lc1, .slice m1 mn mc1, .string I0, .string U0, .string U1], fun a ha => by simp only [ea0 a ha, ea1 a ha, ea2 a ha, ea3 a ha, ea4 a ha, ea5 a ha, ea6 a ha, ea7 a ha, ea8 a ha, ea9 a ha, ea10 a ha, Result.andThen], hK _ ?_⟩
        clear hK K2
        iterate 2 (refine seq_take _ rfl (fun K2 hK => ?_); go_simp; (first | refine hK _ ?_ | refine ⟨_, fun _ _ => rfl, hK _ ?_⟩); clear hK K2)
        refine seq_take _ rfl (fun K2 hK => ?_); go_simp
        (first | refine hK _ ?_ | refine ⟨.pointer (some ⟨gb, ob + j * 11, none⟩), fun _ _ => if_pos (by omega), hK _ ?_⟩)
        clear hK K2
        refine seq_take _ rfl (fun K2 hK => ?_); go_simp
        refine ⟨.agg #[.string K3, .bool h2, .int .i64 k2, .string S2, .bool b2, .int .u64 n2, .slice l2 ln2 lc2, .slice m2 mn2 mc2, .string I2, .string U2, .string U3], fun a ha => by simp only [eb0 a ha, eb1 a ha, eb2 a ha, eb3 a ha, eb4 a ha, eb5 a ha, eb6 a ha, eb7 a ha, eb8 a ha, eb9 a ha, eb10 a ha, Result.andThen], hK _ ?_⟩
        clear hK K2
        refine seq_come _ rfl (fun K2 hK => ?_); go_simp
        refine ((hk.out l[j] (List.getElem_mem hlt)) m[j] [.string K0, .bool h0, .int .i64 k, .string S1, .bool b0, .int .u64 n, .slice l1 ln lc1, .slice m1 mn mc1, .string I0, .string U0, .string U1] [.string K3, .bool h2, .int .i64 k2, .string S2, .bool b2, .int .u64 n2, .slice l2 ln2 lc2, .slice m2 mn2 mc2, .string I2, .string U2, .string U3] P Q D (kslim_at HLIM.out _ (List.getElem_mem hlt)) (HRA.out.below HBD.out) (HRB.out.below HBD.out)).mono ?_; rintro e w4 ⟨rfl, hb4⟩
        obtain ⟨bb, hbb⟩ : ∃ bb, alike l[j] m[j] = bb := ⟨_, rfl⟩
        have HBB := Lib.hid hbb
        rw [hbb]
        clear hbb
        have HB4 := Lib.hid (below_step HBD.out hb4)
        have hS4 : Two w4 ga (oa + 11 * j) [.string K0, .bool h0, .int .i64 k, .string S1, .bool b0, .int .u64 n, .slice l1 ln lc1, .slice m1 mn mc1, .string I0, .string U0, .string U1] gb (ob + 11 * j) [.string K3, .bool h2, .int .i64 k2, .string S2, .bool b2, .int .u64 n2, .slice l2 ln2 lc2, .slice m2 mn2 mc2, .string I2, .string U2, .string U3] := ⟨HCA.out.below HB4.out hga, HCB.out.below HB4.out hgb⟩
        go_simp; refine hK.out _ _ hS4 ?_; clear hK K2 hb4
        iterate 1 (refine seq_take _ rfl (fun K2 hK => ?_); go_simp; (first | refine hK _ ?_ | refine ⟨_, fun _ _ => rfl, hK _ ?_⟩); clear hK K2)
        refine seq_done ?_
        clear ea0 ea1 ea2 ea3 ea4 ea5 ea6 ea7 ea8 ea9 ea10 eb0 eb1 eb2 eb3 eb4 eb5 eb6 eb7 eb8 eb9 eb10 hne hS hS4
        have HBW := Lib.hid (below_step HBR.out HB4.out)
        cases bb with
        | true =>
          have HE := Lib.hid (alike_iff.1 HBB.out)
          go_wp2_with fail
          have hj := HJ.out
          go_roundg (gk - 1)
          case measure => omega
          case rel => exact ⟨j + 1, by simp, by omega, HBW.out, Lib.hid (by rw [List.take_succ_eq_append_getElem hlt, List.take_succ_eq_append_getElem hltm, HEQ.out, HE.out])⟩
        | false =>
          have hr : r = false := by rw [← HR.out]; exact alike_no (fun h => by have := HBB.out; subst h; rw [alike_yes rfl] at this; cases this)
          subst hr
          go_wp2_with fail
          go_ret
          exact ⟨rfl, HBW.out⟩
      · have hjn : j = l.length := by have := HJ.out; omega
        have hr : r = true := by
          rw [← HR.out]
          refine alike_yes ?_
          have h := HEQ.out
          rw [hjn, List.take_length, HLEN.out, List.take_length] at h
          exact h
        subst hr
        clear hjn
        go_wp2_with fail
        go_ret
        exact ⟨rfl, HBR.out⟩
set_option maxRecDepth 1000000 in
set_option maxHeartbeats 8000000 in
theorem hkey_step (key : List UInt8) (has : Bool) (v : Val) (u : List UInt8) (hv : Hid (SV 104 v)) : SK 72 (.mk key has v u) := by
  intro y ca cb P Q w hlim ha hb
  cases y with | mk key2 has2 v2 u2 =>
  rw [KRel] at ha hb
  rw [klim] at hlim
  obtain ⟨ca, hra, rfl⟩ := ha
  obtain ⟨cb, hrb, rfl⟩ := hb
  have HRA := Lib.hid hra
  have HRB := Lib.hid hrb
  have HLIM := Lib.hid hlim
  obtain ⟨k, S1, b0, n, l1, ln, lc1, m1, mn, mc1, I0, U0, rfl⟩ := hra.form
  obtain ⟨k2, S2, b2, n2, l2, ln2, lc2, m2, mn2, mc2, I2, U2, rfl⟩ := hrb.form
  clear hra hrb hlim
  obtain ⟨KA, hKA⟩ : ∃ X : ByteArray, (⟨key.toArray⟩ : ByteArray) = X := ⟨_, rfl⟩
  obtain ⟨KB, hKB⟩ : ∃ X : ByteArray, (⟨key2.toArray⟩ : ByteArray) = X := ⟨_, rfl⟩
  obtain ⟨UA, hUA⟩ : ∃ X : ByteArray, (⟨u.toArray⟩ : ByteArray) = X := ⟨_, rfl⟩
  obtain ⟨UB, hUB⟩ : ∃ X : ByteArray, (⟨u2.toArray⟩ : ByteArray) = X := ⟨_, rfl⟩
  have h1 : KA.data.toList = key := by rw [← hKA]
  have h2 : KB.data.toList = key2 := by rw [← hKB]
  have h3 : UA.data.toList = u := by rw [← hUA]
  have h4 : UB.data.toList = u2 := by rw [← hUB]
  show Calls Tryz.prog _ #[.agg #[.string ⟨key.toArray⟩, .bool has, .int .i64 k, .string S1, .bool b0, .int .u64 n, .slice l1 ln lc1, .slice m1 mn mc1, .string I0, .string U0, .string ⟨u.toArray⟩], .agg #[.string ⟨key2.toArray⟩, .bool has2, .int .i64 k2, .string S2, .bool b2, .int .u64 n2, .slice l2 ln2 lc2, .slice m2 mn2 mc2, .string I2, .string U2, .string ⟨u2.toArray⟩]] w _
  rw [hKA, hKB, hUA, hUB]
  clear hKA hKB hUA hUB
  have HB0 : Hid (Below w.heap.size w ((w.alloc (.cells #[.string KA, .bool has, .int .i64 k, .string S1, .bool b0, .int .u64 n, .slice l1 ln lc1, .slice m1 mn mc1, .string I0, .string U0, .string UA] 78)).alloc (.cells #[.string KB, .bool has2, .int .i64 k2, .string S2, .bool b2, .int .u64 n2, .slice l2 ln2 lc2, .slice m2 mn2 mc2, .string I2, .string U2, .string UB] 78))) := Lib.hid (below_step (below_new _ _) (below_new _ _))
  by_cases e1 : key = key2
  case neg =>
    have d1 := (text_ne h1 h2 e1).2
    rw [alike_no (fun h => e1 (by simp only [KV.mk.injEq] at h; exact h.1))]
    clear e1 h1 h2 h3 h4
    go_enter Tryz.func72, Tryz.ntmps72
    go_wp2_with fail
    go_ret
    exact ⟨rfl, HB0.out⟩
  case pos =>
  obtain rfl := ba_same h1 h2 e1
  by_cases e2 : has = has2
  case neg =>
    have d1 : (has == has2) = false := by rw [beq_eq_false_iff_ne]; exact e2
    rw [alike_no (fun h => e2 (by simp only [KV.mk.injEq] at h; exact h.2.1))]
    clear e1 e2 h1 h2 h3 h4
    go_enter Tryz.func72, Tryz.ntmps72
    go_wp2_with fail
    go_ret
    exact ⟨rfl, HB0.out⟩
  case pos =>
  subst e2
  by_cases e3 : u = u2
  case neg =>
    have d1 := (text_ne h3 h4 e3).2
    rw [alike_no (fun h => e3 (by simp only [KV.mk.injEq] at h; exact h.2.2.2))]
    clear e1 e3 h1 h2 h3 h4
    go_enter Tryz.func72, Tryz.ntmps72
    go_wp2_with fail
    go_ret
    exact ⟨rfl, HB0.out⟩
  case pos =>
  obtain rfl := ba_same h3 h4 e3
  have hr : alike (KV.mk key has v u) (KV.mk key2 has v2 u2) = alike v v2 := by
    subst e1 e3
    by_cases h : v = v2
    · rw [alike_yes h, alike_yes (by rw [h])]
    · rw [alike_no h, alike_no (fun e => h (by simp only [KV.mk.injEq] at e; exact e.2.2.1))]
  rw [hr]
  have d0 : (has == has) = true := by simp
  clear hr e1 e3 h1 h2 h3 h4
  go_enter Tryz.func72, Tryz.ntmps72
  go_wp2_with fail
  refine (hv.out v2 [.int .i64 k, .string S1, .bool b0, .int .u64 n, .slice l1 ln lc1, .slice m1 mn mc1, .string I0, .string U0] [.int .i64 k2, .string S2, .bool b2, .int .u64 n2, .slice l2 ln2 lc2, .slice m2 mn2 mc2, .string I2, .string U2] P Q _ HLIM.out (HRA.out.below HB0.out) (HRB.out.below HB0.out)).mono ?_; rintro e w4 ⟨rfl, hb4⟩
  have HB4 := Lib.hid (below_step HB0.out hb4)
  clear hb4
  go_wp2_with fail
  go_ret
  exact ⟨rfl, HB4.out⟩
set_option maxRecDepth 1000000 in
set_option maxHeartbeats 8000000 in
theorem hval_step (k : Int) (s : List UInt8) (b0 : Bool) (n : Nat) (l : List Val) (m : List KV) (i u : List UInt8) (hv : Hid (∀ x ∈ l, SV 104 x)) (hk : Hid (SKs 42 m)) : SV 104 (.mk k s b0 n l m i u) := by
  intro y ca cb P Q w hlim ha hb
  cases y with | mk k2 s2 b2 n2 l2 m2 i2 u2 =>
  rw [VRel] at ha hb
  rw [vlim] at hlim
  obtain ⟨hl1, hl2, hl3, hl4⟩ := hlim
  obtain ⟨lo, lc, mo, mc, rfl, hal, ham⟩ := ha
  obtain ⟨lo2, lc2, mo2, mc2, rfl, hbl, hbm⟩ := hb
  have HAL := Lib.hid hal
  have HAM := Lib.hid ham
  have HBL := Lib.hid hbl
  have HBM := Lib.hid hbm
  have HLV := Lib.hid hl3
  have HLK := Lib.hid hl4
  clear hal ham hbl hbm hl3 hl4
  obtain ⟨SA, hSA⟩ : ∃ X : ByteArray, (⟨s.toArray⟩ : ByteArray) = X := ⟨_, rfl⟩
  obtain ⟨SB, hSB⟩ : ∃ X : ByteArray, (⟨s2.toArray⟩ : ByteArray) = X := ⟨_, rfl⟩
  obtain ⟨IA, hIA⟩ : ∃ X : ByteArray, (⟨i.toArray⟩ : ByteArray) = X := ⟨_, rfl⟩
  obtain ⟨IB, hIB⟩ : ∃ X : ByteArray, (⟨i2.toArray⟩ : ByteArray) = X := ⟨_, rfl⟩
  obtain ⟨UA, hUA⟩ : ∃ X : ByteArray, (⟨u.toArray⟩ : ByteArray) = X := ⟨_, rfl⟩
  obtain ⟨UB, hUB⟩ : ∃ X : ByteArray, (⟨u2.toArray⟩ : ByteArray) = X := ⟨_, rfl⟩
  have t1 : SA.data.toList = s := by rw [← hSA]
  have t2 : SB.data.toList = s2 := by rw [← hSB]
  have t3 : IA.data.toList = i := by rw [← hIA]
  have t4 : IB.data.toList = i2 := by rw [← hIB]
  have t5 : UA.data.toList = u := by rw [← hUA]
  have t6 : UB.data.toList = u2 := by rw [← hUB]
  show Calls Tryz.prog _ #[.agg #[.int .i64 k, .string ⟨s.toArray⟩, .bool b0, .int .u64 (n : Int), .slice lo l.length lc, .slice mo m.length mc, .string ⟨i.toArray⟩, .string ⟨u.toArray⟩], .agg #[.int .i64 k2, .string ⟨s2.toArray⟩, .bool b2, .int .u64 (n2 : Int), .slice lo2 l2.length lc2, .slice mo2 m2.length mc2, .string ⟨i2.toArray⟩, .string ⟨u2.toArray⟩]] w _
  rw [hSA, hSB, hIA, hIB, hUA, hUB]
  clear hSA hSB hIA hIB hUA hUB
  have HB0 : Hid (Below w.heap.size w ((w.alloc (.cells #[.int .i64 k, .string SA, .bool b0, .int .u64 (n : Int), .slice lo l.length lc, .slice mo m.length mc, .string IA, .string UA] 76)).alloc (.cells #[.int .i64 k2, .string SB, .bool b2, .int .u64 (n2 : Int), .slice lo2 l2.length lc2, .slice mo2 m2.length mc2, .string IB, .string UB] 76))) := Lib.hid (below_step (below_new _ _) (below_new _ _))
  by_cases e1 : k = k2
  case neg =>
    have d1 : (k != k2) = true := by rw [bne_iff_ne]; exact e1
    rw [alike_no (fun h => e1 (by simp only [Val.mk.injEq] at h; exact h.1))]
    clear t1 t2 t3 t4 t5 t6 e1
    go_enter Tryz.func104, Tryz.ntmps104
    go_wp2_with fail
    go_ret
    exact ⟨rfl, HB0.out⟩
  case pos =>
  subst e1
  by_cases e2 : s = s2
  case neg =>
    have d1 := (text_ne3 t1 t2 e2)
    rw [alike_no (fun h => e2 (by simp only [Val.mk.injEq] at h; exact h.2.1))]
    clear t1 t2 t3 t4 t5 t6 e2
    go_enter Tryz.func104, Tryz.ntmps104
    go_wp2_with fail
    go_ret
    exact ⟨rfl, HB0.out⟩
  case pos =>
  obtain rfl := ba_same t1 t2 e2
  by_cases e3 : b0 = b2
  case neg =>
    have d1 : ¬ b0 = b2 := by exact e3
    rw [alike_no (fun h => e3 (by simp only [Val.mk.injEq] at h; exact h.2.2.1))]
    clear t1 t2 t3 t4 t5 t6 e2 e3
    go_enter Tryz.func104, Tryz.ntmps104
    go_wp2_with fail
    go_ret
    exact ⟨rfl, HB0.out⟩
  case pos =>
  subst e3
  by_cases e4 : n = n2
  case neg =>
    have d1 : ((n : Int) != (n2 : Int)) = true := by rw [bne_iff_ne]; omega
    rw [alike_no (fun h => e4 (by simp only [Val.mk.injEq] at h; exact h.2.2.2.1))]
    clear t1 t2 t3 t4 t5 t6 e2 e4
    go_enter Tryz.func104, Tryz.ntmps104
    go_wp2_with fail
    go_ret
    exact ⟨rfl, HB0.out⟩
  case pos =>
  subst e4
  by_cases e5 : i = i2
  case neg =>
    have d1 := (text_ne3 t3 t4 e5)
    rw [alike_no (fun h => e5 (by simp only [Val.mk.injEq] at h; exact h.2.2.2.2.2.2.1))]
    clear t1 t2 t3 t4 t5 t6 e2 e5
    go_enter Tryz.func104, Tryz.ntmps104
    go_wp2_with fail
    go_ret
    exact ⟨rfl, HB0.out⟩
  case pos =>
  obtain rfl := ba_same t3 t4 e5
  by_cases e6 : u = u2
  case neg =>
    have d1 := (text_ne3 t5 t6 e6)
    rw [alike_no (fun h => e6 (by simp only [Val.mk.injEq] at h; exact h.2.2.2.2.2.2.2))]
    clear t1 t2 t3 t4 t5 t6 e2 e5 e6
    go_enter Tryz.func104, Tryz.ntmps104
    go_wp2_with fail
    go_ret
    exact ⟨rfl, HB0.out⟩
  case pos =>
  obtain rfl := ba_same t5 t6 e6
  by_cases e7 : l.length = l2.length
  case neg =>
    have d1 : ((l.length : Int) != (l2.length : Int)) = true := by rw [bne_iff_ne]; omega
    rw [alike_no (fun h => e7 (by simp only [Val.mk.injEq] at h; rw [h.2.2.2.2.1]))]
    clear t1 t2 t3 t4 t5 t6 e2 e5 e6 e7
    go_enter Tryz.func104, Tryz.ntmps104
    go_wp2_with fail
    go_ret
    exact ⟨rfl, HB0.out⟩
  case pos =>
  have d7 : ((l.length : Int) != (l2.length : Int)) = false := by rw [bne_eq_false_iff_eq]; omega
  have d2 : (k != k) = false := by simp
  have d3 : (b0 != b0) = false := by simp
  have d4 : ((n : Int) != (n : Int)) = false := by simp
  have HEQ : Hid (s = s2 ∧ i = i2 ∧ u = u2 ∧ l.length = l2.length) := Lib.hid ⟨e2, e5, e6, e7⟩
  clear t1 t2 t3 t4 t5 t6 e2 e5 e6
  obtain ⟨r, HR⟩ : ∃ r, Hid (alike (Val.mk k s b0 n l m i u) (Val.mk k s2 b0 n l2 m2 i2 u2) = r) := ⟨_, Lib.hid rfl⟩
  rw [HR.out]
  obtain ⟨W, hW⟩ : ∃ W, ((w.alloc (.cells #[.int .i64 k, .string SA, .bool b0, .int .u64 (n : Int), .slice lo l.length lc, .slice mo m.length mc, .string IA, .string UA] 76)).alloc (.cells #[.int .i64 k, .string SA, .bool b0, .int .u64 (n : Int), .slice lo2 l2.length lc2, .slice mo2 m2.length mc2, .string IA, .string UA] 76)) = W := ⟨_, rfl⟩
  rw [hW] at HB0
  have HXA : Hid (W.heap[w.heap.size]? = some (.cells #[.int .i64 k, .string SA, .bool b0, .int .u64 (n : Int), .slice lo l.length lc, .slice mo m.length mc, .string IA, .string UA] 76 (0, 0))) := Lib.hid (by rw [← hW]; exact (Below.heap_alloc _ _ _ (by simp)).trans (heap_alloc_new w _))
  have HXB : Hid (W.heap[w.heap.size + 1]? = some (.cells #[.int .i64 k, .string SA, .bool b0, .int .u64 (n : Int), .slice lo2 l2.length lc2, .slice mo2 m2.length mc2, .string IA, .string UA] 76 (0, 0))) := Lib.hid (by rw [← hW]; have := heap_alloc_new (w.alloc (.cells #[.int .i64 k, .string SA, .bool b0, .int .u64 (n : Int), .slice lo l.length lc, .slice mo m.length mc, .string IA, .string UA] 76)) (.cells #[.int .i64 k, .string SA, .bool b0, .int .u64 (n : Int), .slice lo2 l2.length lc2, .slice mo2 m2.length mc2, .string IA, .string UA] 76); simpa using this)
  have HW := Lib.hid hW
  clear hW e7
  go_enter Tryz.func104, Tryz.ntmps104
  go_wp2_with fail
  rw [HW.out]
  refine (hk.out m2 mo mo2 mc mc2 P Q W hl2 HLK.out (HAM.out.below HB0.out) (HBM.out.below HB0.out)).mono ?_; rintro e w1 ⟨rfl, hb1⟩
  have HB1 := Lib.hid (below_step HB0.out hb1)
  have HXA1 := Lib.hid ((hb1.block _ (row_lt HXA.out)).trans HXA.out)
  have HXB1 := Lib.hid ((hb1.block _ (row_lt HXB.out)).trans HXB.out)
  clear hb1
  obtain ⟨bm, hbm⟩ : ∃ bb, alike m m2 = bb := ⟨_, rfl⟩
  have HBMM := Lib.hid hbm
  rw [hbm]
  clear hbm
  cases bm with
  | false =>
    have hr : r = false := by rw [← HR.out]; exact alike_no (fun h => by simp only [Val.mk.injEq] at h; rw [alike_yes h.2.2.2.2.2.1] at HBMM; cases HBMM.out)
    subst hr
    go_wp2_with fail
    go_ret
    exact ⟨rfl, HB1.out⟩
  | true =>
    have HM := Lib.hid (alike_iff.1 HBMM.out)
    have hxa4 : w1.cell? ⟨w.heap.size, 4, none⟩ = some (.slice lo l.length lc) := row_cell HXA1.out (j := 4) rfl
    go_wp2_with fail
    clear hxa4
    go_loopg [5] l.length (fun k i wr => ∃ j : Nat, i = .int .i64 (j : Int) ∧ j + k = l.length ∧ Below w1.heap.size w1 wr ∧ Hid (l.take j = l2.take j))
    case atStart => exact ⟨0, rfl, by omega, Below.refl _ _, Lib.hid rfl⟩
    case round =>
      obtain ⟨j, rfl, hj, hbr, HEL⟩ := hrel
      have HBR := Lib.hid hbr
      have HJ := Lib.hid hj
      have HWB := Lib.hid (below_step HB1.out hbr)
      have HXAR := Lib.hid ((hbr.block _ (row_lt HXA1.out)).trans HXA1.out)
      have HXBR := Lib.hid ((hbr.block _ (row_lt HXB1.out)).trans HXB1.out)
      clear hbr hj
      have hxa4 : wr.cell? ⟨w.heap.size, 4, none⟩ = some (.slice lo l.length lc) := row_cell HXAR.out (j := 4) rfl
      by_cases hlt : j < l.length
      · have hltm : j < l2.length := by have := HEQ.out.2.2.2; omega
        obtain ⟨ga, oa, ca, rfl, hga, hca, hra⟩ := vrels_at0 (HAL.out.below HWB.out) j hlt
        obtain ⟨gb, ob, cb, rfl, hgb, hcb, hrb⟩ := vrels_at0 (HBL.out.below HWB.out) j hltm
        have HRA := Lib.hid hra
        have HRB := Lib.hid hrb
        obtain ⟨k1, S1, b1, n1, l1, ln1, lc1, m1, mn1, mc1, I1, U1, rfl⟩ := hra.form
        obtain ⟨k3, S3, b3, n3, l3, ln3, lc3, m3, mn3, mc3, I3, U3, rfl⟩ := hrb.form
        have HCA := Lib.hid hca
        have HCB := Lib.hid hcb
        clear hra hrb hca hcb
        go_wp2_with fail
        have ea0 : ∀ a : World, Four a ga (oa + 8 * j) [.int .i64 k1, .string S1, .bool b1, .int .u64 n1, .slice l1 ln1 lc1, .slice m1 mn1 mc1, .string I1, .string U1] gb (ob + 8 * j) [.int .i64 k3, .string S3, .bool b3, .int .u64 n3, .slice l3 ln3 lc3, .slice m3 mn3 mc3, .string I3, .string U3] w.heap.size [.int .i64 k, .string SA, .bool b0, .int .u64 (n : Int), .slice (some ⟨ga, oa, none⟩) l.length lc, .slice mo m.length mc, .string IA, .string UA] (w.heap.size + 1) [.int .i64 k, .string SA, .bool b0, .int .u64 (n : Int), .slice (some ⟨gb, ob, none⟩) l2.length lc2, .slice mo2 m2.length mc2, .string IA, .string UA] 76 → a.cell? ⟨ga, oa + j * 8, none⟩ = some (.int .i64 k1) := fun a ha => by have := ha.1 0 (by simp); rw [show oa + j * 8 = oa + 8 * j + 0 by omega, this]; rfl
        have eb0 : ∀ a : World, Four a ga (oa + 8 * j) [.int .i64 k1, .string S1, .bool b1, .int .u64 n1, .slice l1 ln1 lc1, .slice m1 mn1 mc1, .string I1, .string U1] gb (ob + 8 * j) [.int .i64 k3, .string S3, .bool b3, .int .u64 n3, .slice l3 ln3 lc3, .slice m3 mn3 mc3, .string I3, .string U3] w.heap.size [.int .i64 k, .string SA, .bool b0, .int .u64 (n : Int), .slice (some ⟨ga, oa, none⟩) l.length lc, .slice mo m.length mc, .string IA, .string UA] (w.heap.size + 1) [.int .i64 k, .string SA, .bool b0, .int .u64 (n : Int), .slice (some ⟨gb, ob, none⟩) l2.length lc2, .slice mo2 m2.length mc2, .string IA, .string UA] 76 → a.cell? ⟨gb, ob + j * 8, none⟩ = some (.int .i64 k3) := fun a ha => by have := ha.2.1 0 (by simp); rw [show ob + j * 8 = ob + 8 * j + 0 by omega, this]; rfl
        have ea1 : ∀ a : World, Four a ga (oa + 8 * j) [.int .i64 k1, .string S1, .bool b1, .int .u64 n1, .slice l1 ln1 lc1, .slice m1 mn1 mc1, .string I1, .string U1] gb (ob + 8 * j) [.int .i64 k3, .string S3, .bool b3, .int .u64 n3, .slice l3 ln3 lc3, .slice m3 mn3 mc3, .string I3, .string U3] w.heap.size [.int .i64 k, .string SA, .bool b0, .int .u64 (n : Int), .slice (some ⟨ga, oa, none⟩) l.length lc, .slice mo m.length mc, .string IA, .string UA] (w.heap.size + 1) [.int .i64 k, .string SA, .bool b0, .int .u64 (n : Int), .slice (some ⟨gb, ob, none⟩) l2.length lc2, .slice mo2 m2.length mc2, .string IA, .string UA] 76 → a.cell? ⟨ga, oa + j * 8 + 1, none⟩ = some (.string S1) := fun a ha => by have := ha.1 1 (by simp); rw [show oa + j * 8 + 1 = oa + 8 * j + 1 by omega, this]; rfl
        have eb1 : ∀ a : World, Four a ga (oa + 8 * j) [.int .i64 k1, .string S1, .bool b1, .int .u64 n1, .slice l1 ln1 lc1, .slice m1 mn1 mc1, .string I1, .string U1] gb (ob + 8 * j) [.int .i64 k3, .string S3, .bool b3, .int .u64 n3, .slice l3 ln3 lc3, .slice m3 mn3 mc3, .string I3, .string U3] w.heap.size [.int .i64 k, .string SA, .bool b0, .int .u64 (n : Int), .slice (some ⟨ga, oa, none⟩) l.length lc, .slice mo m.length mc, .string IA, .string UA] (w.heap.size + 1) [.int .i64 k, .string SA, .bool b0, .int .u64 (n : Int), .slice (some ⟨gb, ob, none⟩) l2.length lc2, .slice mo2 m2.length mc2, .string IA, .string UA] 76 → a.cell? ⟨gb, ob + j * 8 + 1, none⟩ = some (.string S3) := fun a ha => by have := ha.2.1 1 (by simp); rw [show ob + j * 8 + 1 = ob + 8 * j + 1 by omega, this]; rfl
        have ea2 : ∀ a : World, Four a ga (oa + 8 * j) [.int .i64 k1, .string S1, .bool b1, .int .u64 n1, .slice l1 ln1 lc1, .slice m1 mn1 mc1, .string I1, .string U1] gb (ob + 8 * j) [.int .i64 k3, .string S3, .bool b3, .int .u64 n3, .slice l3 ln3 lc3, .slice m3 mn3 mc3, .string I3, .string U3] w.heap.size [.int .i64 k, .string SA, .bool b0, .int .u64 (n : Int), .slice (some ⟨ga, oa, none⟩) l.length lc, .slice mo m.length mc, .string IA, .string UA] (w.heap.size + 1) [.int .i64 k, .string SA, .bool b0, .int .u64 (n : Int), .slice (some ⟨gb, ob, none⟩) l2.length lc2, .slice mo2 m2.length mc2, .string IA, .string UA] 76 → a.cell? ⟨ga, oa + j * 8 + 2, none⟩ = some (.bool b1) := fun a ha => by have := ha.1 2 (by simp); rw [show oa + j * 8 + 2 = oa + 8 * j + 2 by omega, this]; rfl
        have eb2 : ∀ a : World, Four a ga (oa + 8 * j) [.int .i64 k1, .string S1, .bool b1, .int .u64 n1, .slice l1 ln1 lc1, .slice m1 mn1 mc1, .string I1, .string U1] gb (ob + 8 * j) [.int .i64 k3, .string S3, .bool b3, .int .u64 n3, .slice l3 ln3 lc3, .slice m3 mn3 mc3, .string I3, .string U3] w.heap.size [.int .i64 k, .string SA, .bool b0, .int .u64 (n : Int), .slice (some ⟨ga, oa, none⟩) l.length lc, .slice mo m.length mc, .string IA, .string UA] (w.heap.size + 1) [.int .i64 k, .string SA, .bool b0, .int .u64 (n : Int), .slice (some ⟨gb, ob, none⟩) l2.length lc2, .slice mo2 m2.length mc2, .string IA, .string UA] 76 → a.cell? ⟨gb, ob + j * 8 + 2, none⟩ = some (.bool b3) := fun a ha => by have := ha.2.1 2 (by simp); rw [show ob + j * 8 + 2 = ob + 8 * j + 2 by omega, this]; rfl
        have ea3 : ∀ a : World, Four a ga (oa + 8 * j) [.int .i64 k1, .string S1, .bool b1, .int .u64 n1, .slice l1 ln1 lc1, .slice m1 mn1 mc1, .string I1, .string U1] gb (ob + 8 * j) [.int .i64 k3, .string S3, .bool b3, .int .u64 n3, .slice l3 ln3 lc3, .slice m3 mn3 mc3, .string I3, .string U3] w.heap.size [.int .i64 k, .string SA, .bool b0, .int .u64 (n : Int), .slice (some ⟨ga, oa, none⟩) l.length lc, .slice mo m.length mc, .string IA, .string UA] (w.heap.size + 1) [.int .i64 k, .string SA, .bool b0, .int .u64 (n : Int), .slice (some ⟨gb, ob, none⟩) l2.length lc2, .slice mo2 m2.length mc2, .string IA, .string UA] 76 → a.cell? ⟨ga, oa + j * 8 + 3, none⟩ = some (.int .u64 n1) := fun a ha => by have := ha.1 3 (by simp); rw [show oa + j * 8 + 3 = oa + 8 * j + 3 by omega, this]; rfl
        have eb3 : ∀ a : World, Four a ga (oa + 8 * j) [.int .i64 k1, .string S1, .bool b1, .int .u64 n1, .slice l1 ln1 lc1, .slice m1 mn1 mc1, .string I1, .string U1] gb (ob + 8 * j) [.int .i64 k3, .string S3, .bool b3, .int .u64 n3, .slice l3 ln3 lc3, .slice m3 mn3 mc3, .string I3, .string U3] w.heap.size [.int .i64 k, .string SA, .bool b0, .int .u64 (n : Int), .slice (some ⟨ga, oa, none⟩) l.length lc, .slice mo m.length mc, .string IA, .string UA] (w.heap.size + 1) [.int .i64 k, .string SA, .bool b0, .int .u64 (n : Int), .slice (some ⟨gb, ob, none⟩) l2.length lc2, .slice mo2 m2.length mc2, .string IA, .string UA] 76 → a.cell? ⟨gb, ob + j * 8 + 3, none⟩ = some (.int .u64 n3) := fun a ha => by have := ha.2.1 3 (by simp); rw [show ob + j * 8 + 3 = ob + 8 * j + 3 by omega, this]; rfl
        have ea4 : ∀ a : World, Four a ga (oa + 8 * j) [.int .i64 k1, .string S1, .bool b1, .int .u64 n1, .slice l1 ln1 lc1, .slice m1 mn1 mc1, .string I1, .string U1] gb (ob + 8 * j) [.int .i64 k3, .string S3, .bool b3, .int .u64 n3, .slice l3 ln3 lc3, .slice m3 mn3 mc3, .string I3, .string U3] w.heap.size [.int .i64 k, .string SA, .bool b0, .int .u64 (n : Int), .slice (some ⟨ga, oa, none⟩) l.length lc, .slice mo m.length mc, .string IA, .string UA] (w.heap.size + 1) [.int .i64 k, .string SA, .bool b0, .int .u64 (n : Int), .slice (some ⟨gb, ob, none⟩) l2.length lc2, .slice mo2 m2.length mc2, .string IA, .string UA] 76 → a.cell? ⟨ga, oa + j * 8 + 4, none⟩ = some (.slice l1 ln1 lc1) := fun a ha => by have := ha.1 4 (by simp); rw [show oa + j * 8 + 4 = oa + 8 * j + 4 by omega, this]; rfl
        have eb4 : ∀ a : World, Four a ga (oa + 8 * j) [.int .i64 k1, .string S1, .bool b1, .int .u64 n1, .slice l1 ln1 lc1, .slice m1 mn1 mc1, .string I1, .string U1] gb (ob + 8 * j) [.int .i64 k3, .string S3, .bool b3, .int .u64 n3, .slice l3 ln3 lc3, .slice m3 mn3 mc3, .string I3, .string U3] w.heap.size [.int .i64 k, .string SA, .bool b0, .int .u64 (n : Int), .slice (some ⟨ga, oa, none⟩) l.length lc, .slice mo m.length mc, .string IA, .string UA] (w.heap.size + 1) [.int .i64 k, .string SA, .bool b0, .int .u64 (n : Int), .slice (some ⟨gb, ob, none⟩) l2.length lc2, .slice mo2 m2.length mc2, .string IA, .string UA] 76 → a.cell? ⟨gb, ob + j * 8 + 4, none⟩ = some (.slice l3 ln3 lc3) := fun a ha => by have := ha.2.1 4 (by simp); rw [show ob + j * 8 + 4 = ob + 8 * j + 4 by omega, this]; rfl
        have ea5 : ∀ a : World, Four a ga (oa + 8 * j) [.int .i64 k1, .string S1, .bool b1, .int .u64 n1, .slice l1 ln1 lc1, .slice m1 mn1 mc1, .string I1, .string U1] gb (ob + 8 * j) [.int .i64 k3, .string S3, .bool b3, .int .u64 n3, .slice l3 ln3 lc3, .slice m3 mn3 mc3, .string I3, .string U3] w.heap.size [.int .i64 k, .string SA, .bool b0, .int .u64 (n : Int), .slice (some ⟨ga, oa, none⟩) l.length lc, .slice mo m.length mc, .string IA, .string UA] (w.heap.size + 1) [.int .i64 k, .string SA, .bool b0, .int .u64 (n : Int), .slice (some ⟨gb, ob, none⟩) l2.length lc2, .slice mo2 m2.length mc2, .string IA, .string UA] 76 → a.cell? ⟨ga, oa + j * 8 + 5, none⟩ = some (.slice m1 mn1 mc1) := fun a ha => by have := ha.1 5 (by simp); rw [show oa + j * 8 + 5 = oa + 8 * j + 5 by omega, this]; rfl
        have eb5 : ∀ a : World, Four a ga (oa + 8 * j) [.int .i64 k1, .string S1, .bool b1, .int .u64 n1, .slice l1 ln1 lc1, .slice m1 mn1 mc1, .string I1, .string U1] gb (ob + 8 * j) [.int .i64 k3, .string S3, .bool b3, .int .u64 n3, .slice l3 ln3 lc3, .slice m3 mn3 mc3, .string I3, .string U3] w.heap.size [.int .i64 k, .string SA, .bool b0, .int .u64 (n : Int), .slice (some ⟨ga, oa, none⟩) l.length lc, .slice mo m.length mc, .string IA, .string UA] (w.heap.size + 1) [.int .i64 k, .string SA, .bool b0, .int .u64 (n : Int), .slice (some ⟨gb, ob, none⟩) l2.length lc2, .slice mo2 m2.length mc2, .string IA, .string UA] 76 → a.cell? ⟨gb, ob + j * 8 + 5, none⟩ = some (.slice m3 mn3 mc3) := fun a ha => by have := ha.2.1 5 (by simp); rw [show ob + j * 8 + 5 = ob + 8 * j + 5 by omega, this]; rfl
        have ea6 : ∀ a : World, Four a ga (oa + 8 * j) [.int .i64 k1, .string S1, .bool b1, .int .u64 n1, .slice l1 ln1 lc1, .slice m1 mn1 mc1, .string I1, .string U1] gb (ob + 8 * j) [.int .i64 k3, .string S3, .bool b3, .int .u64 n3, .slice l3 ln3 lc3, .slice m3 mn3 mc3, .string I3, .string U3] w.heap.size [.int .i64 k, .string SA, .bool b0, .int .u64 (n : Int), .slice (some ⟨ga, oa, none⟩) l.length lc, .slice mo m.length mc, .string IA, .string UA] (w.heap.size + 1) [.int .i64 k, .string SA, .bool b0, .int .u64 (n : Int), .slice (some ⟨gb, ob, none⟩) l2.length lc2, .slice mo2 m2.length mc2, .string IA, .string UA] 76 → a.cell? ⟨ga, oa + j * 8 + 6, none⟩ = some (.string I1) := fun a ha => by have := ha.1 6 (by simp); rw [show oa + j * 8 + 6 = oa + 8 * j + 6 by omega, this]; rfl
        have eb6 : ∀ a : World, Four a ga (oa + 8 * j) [.int .i64 k1, .string S1, .bool b1, .int .u64 n1, .slice l1 ln1 lc1, .slice m1 mn1 mc1, .string I1, .string U1] gb (ob + 8 * j) [.int .i64 k3, .string S3, .bool b3, .int .u64 n3, .slice l3 ln3 lc3, .slice m3 mn3 mc3, .string I3, .string U3] w.heap.size [.int .i64 k, .string SA, .bool b0, .int .u64 (n : Int), .slice (some ⟨ga, oa, none⟩) l.length lc, .slice mo m.length mc, .string IA, .string UA] (w.heap.size + 1) [.int .i64 k, .string SA, .bool b0, .int .u64 (n : Int), .slice (some ⟨gb, ob, none⟩) l2.length lc2, .slice mo2 m2.length mc2, .string IA, .string UA] 76 → a.cell? ⟨gb, ob + j * 8 + 6, none⟩ = some (.string I3) := fun a ha => by have := ha.2.1 6 (by simp); rw [show ob + j * 8 + 6 = ob + 8 * j + 6 by omega, this]; rfl
        have ea7 : ∀ a : World, Four a ga (oa + 8 * j) [.int .i64 k1, .string S1, .bool b1, .int .u64 n1, .slice l1 ln1 lc1, .slice m1 mn1 mc1, .string I1, .string U1] gb (ob + 8 * j) [.int .i64 k3, .string S3, .bool b3, .int .u64 n3, .slice l3 ln3 lc3, .slice m3 mn3 mc3, .string I3, .string U3] w.heap.size [.int .i64 k, .string SA, .bool b0, .int .u64 (n : Int), .slice (some ⟨ga, oa, none⟩) l.length lc, .slice mo m.length mc, .string IA, .string UA] (w.heap.size + 1) [.int .i64 k, .string SA, .bool b0, .int .u64 (n : Int), .slice (some ⟨gb, ob, none⟩) l2.length lc2, .slice mo2 m2.length mc2, .string IA, .string UA] 76 → a.cell? ⟨ga, oa + j * 8 + 7, none⟩ = some (.string U1) := fun a ha => by have := ha.1 7 (by simp); rw [show oa + j * 8 + 7 = oa + 8 * j + 7 by omega, this]; rfl
        have eb7 : ∀ a : World, Four a ga (oa + 8 * j) [.int .i64 k1, .string S1, .bool b1, .int .u64 n1, .slice l1 ln1 lc1, .slice m1 mn1 mc1, .string I1, .string U1] gb (ob + 8 * j) [.int .i64 k3, .string S3, .bool b3, .int .u64 n3, .slice l3 ln3 lc3, .slice m3 mn3 mc3, .string I3, .string U3] w.heap.size [.int .i64 k, .string SA, .bool b0, .int .u64 (n : Int), .slice (some ⟨ga, oa, none⟩) l.length lc, .slice mo m.length mc, .string IA, .string UA] (w.heap.size + 1) [.int .i64 k, .string SA, .bool b0, .int .u64 (n : Int), .slice (some ⟨gb, ob, none⟩) l2.length lc2, .slice mo2 m2.length mc2, .string IA, .string UA] 76 → a.cell? ⟨gb, ob + j * 8 + 7, none⟩ = some (.string U3) := fun a ha => by have := ha.2.1 7 (by simp); rw [show ob + j * 8 + 7 = ob + 8 * j + 7 by omega, this]; rfl
        have xa4 : ∀ a : World, Four a ga (oa + 8 * j) [.int .i64 k1, .string S1, .bool b1, .int .u64 n1, .slice l1 ln1 lc1, .slice m1 mn1 mc1, .string I1, .string U1] gb (ob + 8 * j) [.int .i64 k3, .string S3, .bool b3, .int .u64 n3, .slice l3 ln3 lc3, .slice m3 mn3 mc3, .string I3, .string U3] w.heap.size [.int .i64 k, .string SA, .bool b0, .int .u64 (n : Int), .slice (some ⟨ga, oa, none⟩) l.length lc, .slice mo m.length mc, .string IA, .string UA] (w.heap.size + 1) [.int .i64 k, .string SA, .bool b0, .int .u64 (n : Int), .slice (some ⟨gb, ob, none⟩) l2.length lc2, .slice mo2 m2.length mc2, .string IA, .string UA] 76 → a.cell? ⟨w.heap.size, 4, none⟩ = some (.slice (some ⟨ga, oa, none⟩) l.length lc) := fun a ha => row_cell ha.2.2.1 (j := 4) rfl
        have xb4 : ∀ a : World, Four a ga (oa + 8 * j) [.int .i64 k1, .string S1, .bool b1, .int .u64 n1, .slice l1 ln1 lc1, .slice m1 mn1 mc1, .string I1, .string U1] gb (ob + 8 * j) [.int .i64 k3, .string S3, .bool b3, .int .u64 n3, .slice l3 ln3 lc3, .slice m3 mn3 mc3, .string I3, .string U3] w.heap.size [.int .i64 k, .string SA, .bool b0, .int .u64 (n : Int), .slice (some ⟨ga, oa, none⟩) l.length lc, .slice mo m.length mc, .string IA, .string UA] (w.heap.size + 1) [.int .i64 k, .string SA, .bool b0, .int .u64 (n : Int), .slice (some ⟨gb, ob, none⟩) l2.length lc2, .slice mo2 m2.length mc2, .string IA, .string UA] 76 → a.cell? ⟨w.heap.size + 1, 4, none⟩ = some (.slice (some ⟨gb, ob, none⟩) l2.length lc2) := fun a ha => row_cell ha.2.2.2 (j := 4) rfl
        obtain ⟨D, hD⟩ : ∃ D, wr.drew = D := ⟨_, rfl⟩
        have HBD : Hid (Below wr.heap.size wr D) := Lib.hid (by rw [← hD]; exact (Below.refl _ _).drew)
        have hS : Four D ga (oa + 8 * j) [.int .i64 k1, .string S1, .bool b1, .int .u64 n1, .slice l1 ln1 lc1, .slice m1 mn1 mc1, .string I1, .string U1] gb (ob + 8 * j) [.int .i64 k3, .string S3, .bool b3, .int .u64 n3, .slice l3 ln3 lc3, .slice m3 mn3 mc3, .string I3, .string U3] w.heap.size [.int .i64 k, .string SA, .bool b0, .int .u64 (n : Int), .slice (some ⟨ga, oa, none⟩) l.length lc, .slice mo m.length mc, .string IA, .string UA] (w.heap.size + 1) [.int .i64 k, .string SA, .bool b0, .int .u64 (n : Int), .slice (some ⟨gb, ob, none⟩) l2.length lc2, .slice mo2 m2.length mc2, .string IA, .string UA] 76 := ⟨HCA.out.below HBD.out hga, HCB.out.below HBD.out hgb, (HBD.out.block _ (row_lt HXAR.out)).trans HXAR.out, (HBD.out.block _ (row_lt HXBR.out)).trans HXBR.out⟩
        have hne : Nonempty {w' : World // Four w' ga (oa + 8 * j) [.int .i64 k1, .string S1, .bool b1, .int .u64 n1, .slice l1 ln1 lc1, .slice m1 mn1 mc1, .string I1, .string U1] gb (ob + 8 * j) [.int .i64 k3, .string S3, .bool b3, .int .u64 n3, .slice l3 ln3 lc3, .slice m3 mn3 mc3, .string I3, .string U3] w.heap.size [.int .i64 k, .string SA, .bool b0, .int .u64 (n : Int), .slice (some ⟨ga, oa, none⟩) l.length lc, .slice mo m.length mc, .string IA, .string UA] (w.heap.size + 1) [.int .i64 k, .string SA, .bool b0, .int .u64 (n : Int), .slice (some ⟨gb, ob, none⟩) l2.length lc2, .slice mo2 m2.length mc2, .string IA, .string UA] 76} := ⟨⟨_, hS⟩⟩
        refine wp_region_seq (S := fun w' => Four w' ga (oa + 8 * j) [.int .i64 k1, .string S1, .bool b1, .int .u64 n1, .slice l1 ln1 lc1, .slice m1 mn1 mc1, .string I1, .string U1] gb (ob + 8 * j) [.int .i64 k3, .string S3, .bool b3, .int .u64 n3, .slice l3 ln3 lc3, .slice m3 mn3 mc3, .string I3, .string U3] w.heap.size [.int .i64 k, .string SA, .bool b0, .int .u64 (n : Int), .slice (some ⟨ga, oa, none⟩) l.length lc, .slice mo m.length mc, .string IA, .string UA] (w.heap.size + 1) [.int .i64 k, .string SA, .bool b0, .int .u64 (n : Int), .slice (some ⟨gb, ob, none⟩) l2.length lc2, .slice mo2 m2.length mc2, .string IA, .string UA] 76) [(0, true), (1, true), (2, true), (3, true), (4, true), (5, true), (6, true), (7, true), (8, true), (9, true), (10, false), (11, true)] (by kernel_rfl) (by kernel_rfl) (by kernel_rfl) (by kernel_rfl) (by rw [hD]; exact hS) ?_
        rw [hD]
        clear hD hxa4
        refine seq_take _ rfl (fun K2 hK => ?_); go_simp; (first | refine hK _ ?_ | refine ⟨_, fun _ _ => rfl, hK _ ?_⟩); clear hK K2
        refine seq_take _ rfl (fun K2 hK => ?_); go_simp
        refine ⟨.slice (some ⟨ga, oa, none⟩) l.length lc, fun a ha => by rw [xa4 a ha]; rfl, hK _ ?_⟩
        clear hK K2
        refine seq_take _ rfl (fun K2 hK => ?_); go_simp; (first | refine hK _ ?_ | refine ⟨_, fun _ _ => rfl, hK _ ?_⟩); clear hK K2
        refine seq_take _ rfl (fun K2 hK => ?_); go_simp
        (first | refine hK _ ?_ | refine ⟨.pointer (some ⟨ga, oa + j * 8, none⟩), fun _ _ => if_pos (by omega), hK _ ?_⟩)
        clear hK K2
        refine seq_take _ rfl (fun K2 hK => ?_); go_simp
        refine ⟨.agg #[.int .i64 k1, .string S1, .bool b1, .int .u64 n1, .slice l1 ln1 lc1, .slice m1 mn1 mc1, .string I1, .string U1], fun a ha => by simp only [ea0 a ha, ea1 a ha, ea2 a ha, ea3 a ha, ea4 a ha, ea5 a ha, ea6 a ha, ea7 a ha, Result.andThen], hK _ ?_⟩
        clear hK K2
        refine seq_take _ rfl (fun K2 hK => ?_); go_simp; (first | refine hK _ ?_ | refine ⟨_, fun _ _ => rfl, hK _ ?_⟩); clear hK K2
        refine seq_take _ rfl (fun K2 hK => ?_); go_simp
        refine ⟨.slice (some ⟨gb, ob, none⟩) l2.length lc2, fun a ha => by rw [xb4 a ha]; rfl, hK _ ?_⟩
        clear hK K2
        refine seq_take _ rfl (fun K2 hK => ?_); go_simp; (first | refine hK _ ?_ | refine ⟨_, fun _ _ => rfl, hK _ ?_⟩); clear hK K2
        refine seq_take _ rfl (fun K2 hK => ?_); go_simp
        (first | refine hK _ ?_ | refine ⟨.pointer (some ⟨gb, ob + j * 8, none⟩), fun _ _ => if_pos (by omega), hK _ ?_⟩)
        clear hK K2
        refine seq_take _ rfl (fun K2 hK => ?_); go_simp
        refine ⟨.agg #[.int .i64 k3, .string S3, .bool b3, .int .u64 n3, .slice l3 ln3 lc3, .slice m3 mn3 mc3, .string I3, .string U3], fun a ha => by simp only [eb0 a ha, eb1 a ha, eb2 a ha, eb3 a ha, eb4 a ha, eb5 a ha, eb6 a ha, eb7 a ha, Result.andThen], hK _ ?_⟩
        clear hK K2
        refine seq_come _ rfl (fun K2 hK => ?_); go_simp
        refine ((hv.out l[j] (List.getElem_mem hlt)) l2[j] [.int .i64 k1, .string S1, .bool b1, .int .u64 n1, .slice l1 ln1 lc1, .slice m1 mn1 mc1, .string I1, .string U1] [.int .i64 k3, .string S3, .bool b3, .int .u64 n3, .slice l3 ln3 lc3, .slice m3 mn3 mc3, .string I3, .string U3] P Q D (vslim_at HLV.out _ (List.getElem_mem hlt)) (HRA.out.below HBD.out) (HRB.out.below HBD.out)).mono ?_; rintro e w4 ⟨rfl, hb4⟩
        obtain ⟨bb, hbb⟩ : ∃ bb, alike l[j] l2[j] = bb := ⟨_, rfl⟩
        have HBB := Lib.hid hbb
        rw [hbb]
        clear hbb
        have HB4 := Lib.hid (below_step HBD.out hb4)
        have hS4 : Four w4 ga (oa + 8 * j) [.int .i64 k1, .string S1, .bool b1, .int .u64 n1, .slice l1 ln1 lc1, .slice m1 mn1 mc1, .string I1, .string U1] gb (ob + 8 * j) [.int .i64 k3, .string S3, .bool b3, .int .u64 n3, .slice l3 ln3 lc3, .slice m3 mn3 mc3, .string I3, .string U3] w.heap.size [.int .i64 k, .string SA, .bool b0, .int .u64 (n : Int), .slice (some ⟨ga, oa, none⟩) l.length lc, .slice mo m.length mc, .string IA, .string UA] (w.heap.size + 1) [.int .i64 k, .string SA, .bool b0, .int .u64 (n : Int), .slice (some ⟨gb, ob, none⟩) l2.length lc2, .slice mo2 m2.length mc2, .string IA, .string UA] 76 := ⟨HCA.out.below HB4.out hga, HCB.out.below HB4.out hgb, (HB4.out.block _ (row_lt HXAR.out)).trans HXAR.out, (HB4.out.block _ (row_lt HXBR.out)).trans HXBR.out⟩
        go_simp; refine hK.out _ _ hS4 ?_; clear hK K2 hb4
        refine seq_take _ rfl (fun K2 hK => ?_); go_simp; (first | refine hK _ ?_ | refine ⟨_, fun _ _ => rfl, hK _ ?_⟩); clear hK K2
        refine seq_done ?_
        clear ea0 ea1 ea2 ea3 ea4 ea5 ea6 ea7 eb0 eb1 eb2 eb3 eb4 eb5 eb6 eb7 xa4 xb4 hne hS hS4
        have HBW := Lib.hid (below_step HWB.out HB4.out)
        cases bb with
        | true =>
          have HE := Lib.hid (alike_iff.1 HBB.out)
          go_wp2_with fail
          have hj := HJ.out
          go_roundg (gk - 1)
          case measure => omega
          case rel => exact ⟨j + 1, by simp, by omega, below_step HBR.out HB4.out, Lib.hid (by rw [List.take_succ_eq_append_getElem hlt, List.take_succ_eq_append_getElem hltm, HEL.out, HE.out])⟩
        | false =>
          have hr : r = false := by rw [← HR.out]; exact alike_no (fun h => by simp only [Val.mk.injEq] at h; have h5 := h.2.2.2.2.1; have := HBB.out; subst h5; rw [alike_yes rfl] at this; cases this)
          subst hr
          go_wp2_with fail
          go_ret
          exact ⟨rfl, HBW.out⟩
      · have hjn : j = l.length := by have := HJ.out; omega
        have hr : r = true := by
          rw [← HR.out]
          refine alike_yes ?_
          have h := HEL.out
          rw [hjn, List.take_length, HEQ.out.2.2.2, List.take_length] at h
          rw [h, HEQ.out.1, HEQ.out.2.1, HEQ.out.2.2.1, HM.out]
        subst hr
        clear hjn
        go_wp2_with fail
        go_ret
        exact ⟨rfl, HWB.out⟩
theorem hsame_all : ∀ n : Nat, (∀ x : Val, SizeOf.sizeOf x < n → SV 104 x) ∧ (∀ x : KV, SizeOf.sizeOf x < n → SK 72 x) ∧ (∀ l : List KV, SizeOf.sizeOf l < n → SKs 42 l)
  | 0 => ⟨fun _ h => by omega, fun _ h => by omega, fun _ h => by omega⟩
  | n + 1 => by
    obtain ⟨i1, i2, i3⟩ := hsame_all n
    refine ⟨fun x h => ?_, fun x h => ?_, fun l h => ?_⟩
    · cases x with | mk k s b n0 l m i u =>
      simp only [Val.mk.sizeOf_spec] at h
      exact hval_step k s b n0 l m i u (Lib.hid fun x hx => i1 x (by have := List.sizeOf_lt_of_mem hx; omega)) (Lib.hid (i3 m (by omega)))
    · cases x with | mk key has v u =>
      simp only [KV.mk.sizeOf_spec] at h
      exact hkey_step key has v u (Lib.hid (i1 v (by omega)))
    · exact hkeys_step l (Lib.hid fun x hx => i2 x (by have := List.sizeOf_lt_of_mem hx; omega))
theorem hkeys_same (l : List KV) : SKs 42 l := (hsame_all (SizeOf.sizeOf l + 1)).2.2 l (by omega)
end Go.Proofs.YtbdbmkmebeemoaaGreatDoor

namespace Go.Proofs.YtbdbmkmebeemoaaGreatDoor
open Go.RowKit

set_option maxRecDepth 1000000 in
set_option maxHeartbeats 8000000 in
theorem sc_ref (x y : (List UInt8 × List UInt8 × List KV × Nat) × List UInt8) (ca cb : List Value) (P Q : Nat → Prop) (w : World) (hlim : kslim x.1.2.2.1) (hlen : x.1.2.2.1.length ≤ 9223372036854775807) (ha : ScRel w P x ca) (hb : ScRel w Q y cb) :
 Calls Tryz.prog 13 #[.agg ca.toArray, .agg cb.toArray] w fun e w' => e = .returned (.bool (alike x y)) ∧ Below w.heap.size w w' := by
 obtain ⟨lo1, lc1, rfl, hra⟩ := ha
 obtain ⟨lo2, lc2, rfl, hrb⟩ := hb
 obtain ⟨⟨a1, b1, l1, n1⟩, u1⟩ := x
 obtain ⟨⟨a2, b2, l2, n2⟩, u2⟩ := y
 have HRA := Lib.hid hra
 have HRB := Lib.hid hrb
 have HLIM := Lib.hid hlim
 have HLEN := Lib.hid hlen
 clear hra hrb hlim hlen
 dsimp only [strV]
 obtain ⟨A1, hA1⟩ : ∃ X : ByteArray, (⟨a1.toArray⟩ : ByteArray) = X := ⟨_, rfl⟩
 have gA1 : A1.data.toList = a1 := by rw [← hA1]
 obtain ⟨A2, hA2⟩ : ∃ X : ByteArray, (⟨a2.toArray⟩ : ByteArray) = X := ⟨_, rfl⟩
 have gA2 : A2.data.toList = a2 := by rw [← hA2]
 obtain ⟨B1, hB1⟩ : ∃ X : ByteArray, (⟨b1.toArray⟩ : ByteArray) = X := ⟨_, rfl⟩
 have gB1 : B1.data.toList = b1 := by rw [← hB1]
 obtain ⟨B2, hB2⟩ : ∃ X : ByteArray, (⟨b2.toArray⟩ : ByteArray) = X := ⟨_, rfl⟩
 have gB2 : B2.data.toList = b2 := by rw [← hB2]
 obtain ⟨U1, hU1⟩ : ∃ X : ByteArray, (⟨u1.toArray⟩ : ByteArray) = X := ⟨_, rfl⟩
 have gU1 : U1.data.toList = u1 := by rw [← hU1]
 obtain ⟨U2, hU2⟩ : ∃ X : ByteArray, (⟨u2.toArray⟩ : ByteArray) = X := ⟨_, rfl⟩
 have gU2 : U2.data.toList = u2 := by rw [← hU2]
 rw [hA1, hB1, hU1, hA2, hB2, hU2]
 clear hA1 hB1 hU1 hA2 hB2 hU2
 obtain ⟨W, hW⟩ : ∃ W, (w.alloc (.cells #[.string A1, .string B1, .slice lo1 l1.length lc1, .int .u32 (n1 : Int), .string U1] 26)).alloc (.cells #[.string A2, .string B2, .slice lo2 l2.length lc2, .int .u32 (n2 : Int), .string U2] 26) = W := ⟨_, rfl⟩
 have HBW : Hid (Below w.heap.size w W) := Lib.hid (by rw [← hW]; exact below_step (below_new _ _) (below_new _ _))
 have HXA : Hid (W.heap[w.heap.size]? = some (.cells #[.string A1, .string B1, .slice lo1 l1.length lc1, .int .u32 (n1 : Int), .string U1] 26 (0, 0))) := Lib.hid (by rw [← hW]; exact (Below.heap_alloc _ _ _ (by simp)).trans (heap_alloc_new w _))
 have HXB : Hid (W.heap[w.heap.size + 1]? = some (.cells #[.string A2, .string B2, .slice lo2 l2.length lc2, .int .u32 (n2 : Int), .string U2] 26 (0, 0))) := Lib.hid (by rw [← hW]; have := heap_alloc_new (w.alloc (.cells #[.string A1, .string B1, .slice lo1 l1.length lc1, .int .u32 (n1 : Int), .string U1] 26)) (.cells #[.string A2, .string B2, .slice lo2 l2.length lc2, .int .u32 (n2 : Int), .string U2] 26); simpa using this)
 have HK := Lib.hid (hkeys_same l1 l2 lo1 lo2 lc1 lc2 P Q W HLEN.out HLIM.out (HRA.out.below HBW.out) (HRB.out.below HBW.out))
 have HW := Lib.hid hW
 clear hW
 by_cases eA : a1 = a2
 case neg =>
  have dA := (text_ne gA1 gA2 eA).2
  rw [alike_no (x := ((a1, b1, l1, n1), u1)) (y := ((a2, b2, l2, n2), u2)) (fun h => eA (by simp only [Prod.mk.injEq] at h; exact h.1.1))]
  clear  eA gA1 gA2 gB1 gB2 gU1 gU2
  go_enter Tryz.func13, Tryz.ntmps13
  go_wp2_with fail
  rw [HW.out]
  go_ret
  exact ⟨rfl, HBW.out⟩
 case pos =>
 obtain rfl := ba_same gA1 gA2 eA
 by_cases eB : b1 = b2
 case neg =>
  have dB := (text_ne gB1 gB2 eB).2
  rw [alike_no (x := ((a1, b1, l1, n1), u1)) (y := ((a2, b2, l2, n2), u2)) (fun h => eB (by simp only [Prod.mk.injEq] at h; exact h.1.2.1))]
  clear eA eB gA1 gA2 gB1 gB2 gU1 gU2
  go_enter Tryz.func13, Tryz.ntmps13
  go_wp2_with fail
  rw [HW.out]
  go_ret
  exact ⟨rfl, HBW.out⟩
 case pos =>
 obtain rfl := ba_same gB1 gB2 eB
 cases hk : alike l1 l2 with
 | false =>
  have hl : ¬ l1 = l2 := fun h => by rw [alike_yes h] at hk; cases hk
  rw [alike_no (x := ((a1, b1, l1, n1), u1)) (y := ((a2, b2, l2, n2), u2)) (fun h => hl (by simp only [Prod.mk.injEq] at h; exact h.1.2.2.1))]
  clear hl eA eB gA1 gA2 gB1 gB2 gU1 gU2
  go_enter Tryz.func13, Tryz.ntmps13
  go_wp2_with fail
  rw [HW.out]
  refine HK.out.mono ?_; rintro e w4 ⟨rfl, hb4⟩
  rw [hk]
  obtain ⟨xa0, xa1, xa2, xa3, xa4⟩ := row5 ((hb4.block _ (row_lt HXA.out)).trans HXA.out)
  obtain ⟨xb0, xb1, xb2, xb3, xb4⟩ := row5 ((hb4.block _ (row_lt HXB.out)).trans HXB.out)
  have HB4 := Lib.hid (below_step HBW.out hb4)
  clear hb4 hk
  go_wp2_with fail
  go_ret
  exact ⟨rfl, HB4.out⟩
 | true =>
 have hl : l1 = l2 := alike_iff.1 hk
 by_cases eN : n1 = n2
 case neg =>
  have dN : ((n1 : Int) == (n2 : Int)) = false := by rw [beq_eq_false_iff_ne]; omega
  rw [alike_no (x := ((a1, b1, l1, n1), u1)) (y := ((a2, b2, l2, n2), u2)) (fun h => eN (by simp only [Prod.mk.injEq] at h; exact h.1.2.2.2))]
  clear eA eB eN gA1 gA2 gB1 gB2 gU1 gU2 hl
  go_enter Tryz.func13, Tryz.ntmps13
  go_wp2_with fail
  rw [HW.out]
  refine HK.out.mono ?_; rintro e w4 ⟨rfl, hb4⟩
  rw [hk]
  obtain ⟨xa0, xa1, xa2, xa3, xa4⟩ := row5 ((hb4.block _ (row_lt HXA.out)).trans HXA.out)
  obtain ⟨xb0, xb1, xb2, xb3, xb4⟩ := row5 ((hb4.block _ (row_lt HXB.out)).trans HXB.out)
  have HB4 := Lib.hid (below_step HBW.out hb4)
  clear hb4 hk
  go_wp2_with fail
  go_ret
  exact ⟨rfl, HB4.out⟩
 case pos =>
 have dN : ((n1 : Int) == (n2 : Int)) = true := by rw [beq_iff_eq]; omega
 by_cases eU : u1 = u2
 case neg =>
  have dU := (text_ne gU1 gU2 eU).2
  rw [alike_no (x := ((a1, b1, l1, n1), u1)) (y := ((a2, b2, l2, n2), u2)) (fun h => eU (by simp only [Prod.mk.injEq] at h; exact h.2))]
  clear eA eB eN eU gA1 gA2 gB1 gB2 gU1 gU2 hl
  go_enter Tryz.func13, Tryz.ntmps13
  go_wp2_with fail
  rw [HW.out]
  refine HK.out.mono ?_; rintro e w4 ⟨rfl, hb4⟩
  rw [hk]
  obtain ⟨xa0, xa1, xa2, xa3, xa4⟩ := row5 ((hb4.block _ (row_lt HXA.out)).trans HXA.out)
  obtain ⟨xb0, xb1, xb2, xb3, xb4⟩ := row5 ((hb4.block _ (row_lt HXB.out)).trans HXB.out)
  have HB4 := Lib.hid (below_step HBW.out hb4)
  clear hb4 hk
  go_wp2_with fail
  go_ret
  exact ⟨rfl, HB4.out⟩
 case pos =>
 obtain rfl := ba_same gU1 gU2 eU
 rw [alike_yes (x := ((a1, b1, l1, n1), u1)) (y := ((a2, b2, l2, n2), u2)) (by rw [hl, eA, eB, eN, eU])]
 clear hl eA eB eN eU gA1 gA2 gB1 gB2 gU1 gU2
 go_enter Tryz.func13, Tryz.ntmps13
 go_wp2_with fail
 rw [HW.out]
 refine HK.out.mono ?_; rintro e w4 ⟨rfl, hb4⟩
 rw [hk]
 obtain ⟨xa0, xa1, xa2, xa3, xa4⟩ := row5 ((hb4.block _ (row_lt HXA.out)).trans HXA.out)
 obtain ⟨xb0, xb1, xb2, xb3, xb4⟩ := row5 ((hb4.block _ (row_lt HXB.out)).trans HXB.out)
 have HB4 := Lib.hid (below_step HBW.out hb4)
 clear hb4 hk
 go_wp2_with fail
 go_ret
 exact ⟨rfl, HB4.out⟩
end Go.Proofs.YtbdbmkmebeemoaaGreatDoor

namespace Go.Proofs.YtbdbmkmebeemoaaGreatDoor
open Go.RowKit

def CLB {α : Type} (C : Cel α) (T : TypeId) (N : Nat) (v : Value) (xs : List α) (w : World) : Prop := ∃ (css : List (List Value)) (Q : Nat → Prop), w.ownsRow N T C.size v xs.length css.flatten ∧ css.length = xs.length ∧ (∀ j (h1 : j < xs.length) (h2 : j < css.length), C.R w Q xs[j] css[j]) ∧ (∀ k, Q k → N ≤ k ∧ k < w.heap.size ∧ v.ownBlock ≠ some k)
theorem CLB.nil {α : Type} (C : Cel α) (T : TypeId) (N : Nat) (w : World) : CLB C T N (.slice none 0 0) [] w := ⟨[], fun _ => False, World.ownsRow_nil _ _ _ _, rfl, fun j h => by simp at h, fun k h => h.elim⟩
theorem CLB.upd {α : Type} {C : Cel α} {T : TypeId} {S : Nat → Prop} {N : Nat} {v : Value} {xs : List α} {w w' : World} (h : CLB C T N v xs w) (hu : Upd S w w') (hs : ∀ k, N ≤ k → k < w.heap.size → ¬ S k) : CLB C T N v xs w' := by
  obtain ⟨css, Q, h1, h2, h3, h4⟩ := h
  exact ⟨css, Q, hu.own h1 (fun k hk => hs k (h1.lt k hk).1 (h1.lt k hk).2), h2, fun j g1 g2 => C.upd hu (fun k hk => hs k (h4 k hk).1 (h4 k hk).2.1) (fun k hk => hk) (h3 j g1 g2), fun k hk => ⟨(h4 k hk).1, Nat.lt_of_lt_of_le (h4 k hk).2.1 hu.size, (h4 k hk).2.2⟩⟩
theorem CLB.slice {α : Type} {C : Cel α} {T : TypeId} {N : Nat} {v : Value} {xs : List α} {w : World} (h : CLB C T N v xs w) : ∃ lo cap, v = .slice lo xs.length cap := by
  obtain ⟨css, Q, h1, _⟩ := h
  exact own_slice h1
theorem CLB.krels {T : TypeId} {N : Nat} {lo : Option Addr} {cap : Nat} {xs : List KV} {w : World} (h : CLB kcel T N (.slice lo xs.length cap) xs w) : KRels w (fun k => N ≤ k) xs lo 0 := by
  obtain ⟨css, Q, h1, h2, h3, h4⟩ := h
  refine KRel_own (css := css) h1 h2 (fun j g1 g2 => ?_) (fun k hk => (h1.lt k hk).1)
  exact KRel.upd (Upd.refl (fun _ => False) w) (fun _ _ h => h) (fun k hk => (h4 k hk).1) _ _ (h3 j g1 g2)
theorem CLB.add {α : Type} {C : Cel α} {T : TypeId} {N : Nat} {xs : List α} {x : α} {ao : Option Addr} {cap g cap' : Nat} {w w1 W : World} {cs : List Value} {css : List (List Value)} {Q : Nat → Prop} (h1 : w.ownsRow N T C.size (.slice ao xs.length cap) xs.length css.flatten) (h2 : css.length = xs.length) (h3 : ∀ j (h1 : j < xs.length) (h2 : j < css.length), C.R w Q xs[j] css[j]) (h4 : ∀ k, Q k → N ≤ k ∧ k < w.heap.size ∧ (Value.slice ao xs.length cap).ownBlock ≠ some k)
    (hN : N ≤ w.heap.size) (hb : Below w.heap.size w w1) (hrel : C.R w1 (fun k => w.heap.size ≤ k) x cs) (hu : Upd (fun k => (Value.slice ao xs.length cap).ownBlock = some k) w1 W) (hown : W.ownsRow N T C.size (.slice (some ⟨g, 0, none⟩) (xs.length + 1) cap') (xs.length + 1) (css.flatten ++ cs)) (hg : (Value.slice ao xs.length cap).ownBlock = some g ∨ w1.heap.size ≤ g) :
    CLB C T N (.slice (some ⟨g, 0, none⟩) (xs.length + 1) cap') (xs ++ [x]) W := by
  have hs1 := hb.size
  have hs2 := hu.size
  refine ⟨css ++ [cs], fun k => Q k ∨ (w.heap.size ≤ k ∧ k < w1.heap.size), ?_, ?_, ?_, ?_⟩
  · rw [List.flatten_append, List.flatten_singleton, List.length_append]
    exact hown
  · rw [List.length_append, List.length_append, h2]; rfl
  · intro j g1 g2
    by_cases hj : j < xs.length
    · rw [List.getElem_append_left hj, List.getElem_append_left (by omega)]
      refine C.upd hu (fun k hk hs => (h4 k hk).2.2 hs) (fun k hk => .inl hk) (C.upd (Upd.of_new (S := fun _ => False) hb) (fun _ _ h => h) (fun k hk => hk) (h3 j hj (by omega)))
    · have hje : j = xs.length := by rw [List.length_append, List.length_singleton] at g1; omega
      subst hje
      rw [List.getElem_append_right (Nat.le_refl _), List.getElem_append_right (by omega)]
      simp only [Nat.sub_self, List.getElem_cons_zero, h2]
      refine C.upd hu (fun k hk hs => ?_) (fun k hk => .inr hk) (C.lt hrel)
      have := (h1.lt k hs).2; omega
  · intro k hk
    rcases hk with hk | hk
    · have := h4 k hk
      refine ⟨this.1, by omega, fun e => ?_⟩
      have e : g = k := by simpa [Value.ownBlock] using e
      rcases hg with h | h
      · exact this.2.2 (e ▸ h)
      · omega
    · refine ⟨by omega, by omega, fun e => ?_⟩
      have e : g = k := by simpa [Value.ownBlock] using e
      rcases hg with h | h
      · have := (h1.lt g h).2; omega
      · omega
end Go.Proofs.YtbdbmkmebeemoaaGreatDoor

namespace Go.Proofs.YtbdbmkmebeemoaaGreatDoor
open Go.RowKit

/-- what the document's reading of a message answers -/
def RfPost {α : Type} (C : Cel α) (zero : Array Value) (rd : Except Nat α) (w : World) (e : Ending) (w' : World) : Prop := Below w.heap.size w w' ∧ match rd with
  | .error _ => e = .returned (.tuple #[.agg zero, .bool false])
  | .ok x => ∃ cs, e = .returned (.tuple #[.agg cs.toArray, .bool true]) ∧ C.R w' (fun k => w.heap.size ≤ k) x cs
theorem mread_of_fields {σ : Type} {tk : Rec → Bool} {step : σ → Rec → Except Nat σ} {st : σ} {l : List UInt8} {d : Int} {rs : List Rec} (hw : wfields l d = .ok rs) : (∀ c, mfold tk step st rs = .error c → mread tk step st l d = .error c) ∧ (∀ x, mfold tk step st rs = .ok x → mread tk step st l d = .ok (x, munk tk rs)) := by
  unfold wfields at hw
  unfold mread
  split at hw
  · cases hw
  · rename_i h
    rw [if_neg h, hw]
    dsimp only
    exact ⟨fun c hc => by rw [hc], fun x hx => by rw [hx]⟩
theorem mread_fields {σ : Type} {tk : Rec → Bool} {step : σ → Rec → Except Nat σ} {st : σ} {l : List UInt8} {d : Int} : mread tk step st l d = match wfields l d with
    | .error c => .error c
    | .ok rs => match mfold tk step st rs with
      | .error c => .error c
      | .ok x => .ok (x, munk tk rs) := by
  unfold mread wfields
  split
  · rfl
  · cases wall l d with
    | error c => rfl
    | ok rs =>
      dsimp only
      cases mfold tk step st rs <;> rfl
set_option maxRecDepth 1000000 in
set_option maxHeartbeats 16000000 in
theorem sc_refread (X : ByteArray) (d : Int) (w : World) (hX : X.size ≤ 500000) (hd : -9223372036854775808 ≤ d ∧ d ≤ 9223372036854775807) :
    Calls Tryz.prog 11 #[.string X, .int .i64 d] w (RfPost scCel sczero (scrd X.data.toList d) w) := by
  obtain ⟨g, hg⟩ : ∃ g, w.heap.size = g := ⟨_, rfl⟩
  obtain ⟨W0, hW0⟩ : ∃ W0, w.alloc (.cells #[.string ⟨#[]⟩, .string ⟨#[]⟩, .slice none 0 0, .int .u32 0, .string ⟨#[]⟩] 26) = W0 := ⟨_, rfl⟩
  have HB0 : Hid (Below w.heap.size w W0) := Lib.hid (by rw [← hW0]; exact below_new _ _)
  have HG0 : Hid (W0.heap[g]? = some (.cells #[.string ⟨#[]⟩, .string ⟨#[]⟩, .slice none 0 0, .int .u32 0, .string ⟨#[]⟩] 26 (0, 0))) := Lib.hid (by rw [← hW0, ← hg]; exact heap_alloc_new w _)
  have hs0 : W0.heap.size = g + 1 := by rw [← hW0, ← hg]; simp
  have HF := Lib.hid (fields_any X d W0 (by omega) hd.2)
  have HW0 := Lib.hid hW0
  have HGG := Lib.hid hg
  have HS0 := Lib.hid hs0
  have HDD := Lib.hid hd
  have HSS := Lib.hid hX
  clear hW0 hd hX hs0 hg
  cases hw : wfields X.data.toList d with
  | error c =>
    have HBR : Hid (scrd X.data.toList d = .error c) := Lib.hid ((mread_fields (σ := List UInt8 × List UInt8 × List KV × Nat)).trans (by rw [hw]))
    have HW := Lib.hid hw
    clear hw
    go_enter Tryz.func11, Tryz.ntmps11
    go_wp2_with fail
    rw [HW0.out, HGG.out]
    refine HF.out.mono ?_; intro e w1 hpost
    unfold FieldsPost at hpost
    rw [HW.out] at hpost
    obtain ⟨hb1, rfl⟩ := hpost
    have HB1 := Lib.hid (below_step HB0.out hb1)
    have HG1 : Hid (w1.heap[g]? = some (.cells #[.string ⟨#[]⟩, .string ⟨#[]⟩, .slice none 0 0, .int .u32 0, .string ⟨#[]⟩] 26 (0, 0))) := Lib.hid ((hb1.block _ (row_lt HG0.out)).trans HG0.out)
    clear hb1
    go_wp2_with fail
    obtain ⟨W2, hW2⟩ : ∃ W2, w1.alloc (.cells #[.string ⟨#[]⟩, .string ⟨#[]⟩, .slice none 0 0, .int .u32 0, .string ⟨#[]⟩] 26) = W2 := ⟨_, rfl⟩
    have HB2 : Hid (Below w.heap.size w W2) := Lib.hid (by rw [← hW2]; exact below_step HB1.out (below_new _ _))
    have HG2 : Hid (W2.heap[g]? = some (.cells #[.string ⟨#[]⟩, .string ⟨#[]⟩, .slice none 0 0, .int .u32 0, .string ⟨#[]⟩] 26 (0, 0))) := Lib.hid (by rw [← hW2]; exact (Below.heap_alloc _ _ _ (row_lt HG1.out)).trans HG1.out)
    rw [hW2]
    clear hW2
    go_loopg [7, 9] 0 (fun k b i wr => b = .bool false ∧ i = .int .i64 0 ∧ wr = W2)
    case atStart => exact ⟨rfl, rfl, rfl⟩
    case round =>
      obtain ⟨rfl, rfl, rfl⟩ := hrel
      have hg0 : wr.cell? ⟨g, 0, none⟩ = some (.string ⟨#[]⟩) := row_cell HG2.out (j := 0) rfl
      have fg0 : wr.frozen? ⟨g, 0, none⟩ = false := row_thaw HG2.out 0
      have hg1 : wr.cell? ⟨g, 1, none⟩ = some (.string ⟨#[]⟩) := row_cell HG2.out (j := 1) rfl
      have fg1 : wr.frozen? ⟨g, 1, none⟩ = false := row_thaw HG2.out 1
      have hg2 : wr.cell? ⟨g, 2, none⟩ = some (.slice none 0 0) := row_cell HG2.out (j := 2) rfl
      have fg2 : wr.frozen? ⟨g, 2, none⟩ = false := row_thaw HG2.out 2
      have hg3 : wr.cell? ⟨g, 3, none⟩ = some (.int .u32 0) := row_cell HG2.out (j := 3) rfl
      have fg3 : wr.frozen? ⟨g, 3, none⟩ = false := row_thaw HG2.out 3
      have hg4 : wr.cell? ⟨g, 4, none⟩ = some (.string ⟨#[]⟩) := row_cell HG2.out (j := 4) rfl
      have fg4 : wr.frozen? ⟨g, 4, none⟩ = false := row_thaw HG2.out 4
      go_wp2_with fail
      obtain ⟨hr, hua⟩ := sc_set HG2.out (.string ⟨#[]⟩) (.string ⟨#[]⟩) (.slice none 0 0) (.int .u32 0) (.string ⟨#[]⟩)
      refine body_cell2v rfl rfl (load_sc hr rfl) rfl ?_
      refine ⟨HB2.out.trans (hua.below (by have := HB2.out.size; omega) (fun k _ h => by have h : k = g := h; have := HGG.out; omega)), ?_⟩
      rw [HBR.out]
      exact rfl
  | ok rs =>
    have HBR := Lib.hid (mread_of_fields (σ := List UInt8 × List UInt8 × List KV × Nat) (tk := scF.tk) (step := scF.step d) (st := scF.z) hw)
    have HD0 : Hid (0 ≤ d) := Lib.hid (by unfold wfields at hw; split at hw; cases hw; omega)
    have HWA : Hid (wall X.data.toList d = .ok rs) := Lib.hid (by unfold wfields at hw; split at hw; cases hw; exact hw)
    have HLL : Hid (rs.length ≤ X.size) := Lib.hid (by have := wall_length HWA.out; simpa using this)
    have HRAW : Hid (rs.flatMap Rec.raw = X.data.toList) := Lib.hid (wall_raws _ (Nat.le_refl _) HWA.out).1
    have HREC : Hid (∀ r ∈ rs, IsRec d r) := Lib.hid (wall_recs _ (Nat.le_refl _) HWA.out)
    have HW := Lib.hid hw
    clear hw
    go_enter Tryz.func11, Tryz.ntmps11
    go_wp2_with fail
    rw [HW0.out, HGG.out]
    refine HF.out.mono ?_; intro e w1 hpost
    unfold FieldsPost at hpost
    rw [HW.out] at hpost
    obtain ⟨hb1, u, rfl, hown⟩ := hpost
    obtain ⟨lo, lcap, rfl⟩ := own_slice hown
    have HB1 := Lib.hid (below_step HB0.out hb1)
    have HO1 := Lib.hid hown
    have HG1 : Hid (w1.heap[g]? = some (.cells #[.string ⟨#[]⟩, .string ⟨#[]⟩, .slice none 0 0, .int .u32 0, .string ⟨#[]⟩] 26 (0, 0))) := Lib.hid ((hb1.block _ (row_lt HG0.out)).trans HG0.out)
    clear hb1 hown
    go_wp2_with fail
    obtain ⟨bx, hbx⟩ : ∃ bx, w1.heap.size = bx := ⟨_, rfl⟩
    obtain ⟨W2, hW2⟩ : ∃ W2, w1.alloc (.cells #[.string ⟨#[]⟩, .string ⟨#[]⟩, .slice none 0 0, .int .u32 0, .string ⟨#[]⟩] 26) = W2 := ⟨_, rfl⟩
    have HB2 : Hid (Below bx w1 W2) := Lib.hid (by rw [← hW2, ← hbx]; exact below_new _ _)
    have HX2 : Hid (W2.heap[bx]? = some (.cells #[.string ⟨#[]⟩, .string ⟨#[]⟩, .slice none 0 0, .int .u32 0, .string ⟨#[]⟩] 26 (0, 0))) := Lib.hid (by rw [← hW2, ← hbx]; exact heap_alloc_new w1 _)
    rw [hW2, hbx]
    have HBX := Lib.hid hbx
    clear hW2 hbx
    go_loopg [7, 9] rs.length (fun k b i wr => ∃ (j : Nat) (v : Value) (U : ByteArray) (A : ByteArray) (B : ByteArray) (l : List KV) (m : Nat), i = .int .i64 (j : Int) ∧ j + k = rs.length ∧ Below bx w1 wr ∧ wr.heap[bx]? = some (.cells #[.string A, .string B, v, .int .u32 (m : Int), .string U] 26 (0, 0)) ∧ CLB kcel 78 (bx + 1) v l wr ∧ l.length ≤ j ∧ (b = .bool true ∧ Hid (mfold (σ := List UInt8 × List UInt8 × List KV × Nat) scF.tk (scF.step d) scF.z (rs.take j) = .ok (A.data.toList, B.data.toList, l, m) ∧ U.data.toList = munk scF.tk (rs.take j)) ∨ b = .bool false ∧ ∃ c, mfold (σ := List UInt8 × List UInt8 × List KV × Nat) scF.tk (scF.step d) scF.z rs = .error c))
    case atStart => exact ⟨0, .slice none 0 0, ⟨#[]⟩, ⟨#[]⟩, ⟨#[]⟩, [], 0, rfl, by omega, HB2.out, HX2.out, CLB.nil _ _ _ _, Nat.le_refl _, .inl ⟨rfl, Lib.hid ⟨rfl, rfl⟩⟩⟩
    case round =>
      obtain ⟨j, v, U, A, B, l, m, rfl, hj, hbr, hx, hlb, hxl, hcase⟩ := hrel
      have HBR1 := Lib.hid hbr
      have HX1 := Lib.hid hx
      have HJ := Lib.hid hj
      have HLB := Lib.hid hlb
      have hjl : j ≤ 1000000 := by have := HLL.out; have := HSS.out; omega
      have HGR : Hid (wr.heap[g]? = some (.cells #[.string ⟨#[]⟩, .string ⟨#[]⟩, .slice none 0 0, .int .u32 0, .string ⟨#[]⟩] 26 (0, 0))) := Lib.hid ((hbr.block _ (by have := row_lt HG1.out; have := HBX.out; omega)).trans HG1.out)
      have HWB : Hid (Below w.heap.size w wr) := Lib.hid (HB1.out.trans (hbr.mono (by have := HB1.out.size; have := HBX.out; omega)))
      have HGX : Hid (g < bx) := Lib.hid (by have := row_lt HG1.out; have := HBX.out; omega)
      clear hbr hx hj hlb
      rcases hcase with ⟨rfl, hst⟩ | ⟨rfl, c, hm⟩
      case inr =>
        have HBE : Hid (scrd X.data.toList d = .error c) := Lib.hid (HBR.out.1 c hm)
        clear hm
        have hg0 : wr.cell? ⟨g, 0, none⟩ = some (.string ⟨#[]⟩) := row_cell HGR.out (j := 0) rfl
        have fg0 : wr.frozen? ⟨g, 0, none⟩ = false := row_thaw HGR.out 0
        have hg1 : wr.cell? ⟨g, 1, none⟩ = some (.string ⟨#[]⟩) := row_cell HGR.out (j := 1) rfl
        have fg1 : wr.frozen? ⟨g, 1, none⟩ = false := row_thaw HGR.out 1
        have hg2 : wr.cell? ⟨g, 2, none⟩ = some (.slice none 0 0) := row_cell HGR.out (j := 2) rfl
        have fg2 : wr.frozen? ⟨g, 2, none⟩ = false := row_thaw HGR.out 2
        have hg3 : wr.cell? ⟨g, 3, none⟩ = some (.int .u32 0) := row_cell HGR.out (j := 3) rfl
        have fg3 : wr.frozen? ⟨g, 3, none⟩ = false := row_thaw HGR.out 3
        have hg4 : wr.cell? ⟨g, 4, none⟩ = some (.string ⟨#[]⟩) := row_cell HGR.out (j := 4) rfl
        have fg4 : wr.frozen? ⟨g, 4, none⟩ = false := row_thaw HGR.out 4
        by_cases hlt : j < rs.length
        all_goals
          go_wp2_with fail
          obtain ⟨hr, hua⟩ := sc_set HGR.out (.string ⟨#[]⟩) (.string ⟨#[]⟩) (.slice none 0 0) (.int .u32 0) (.string ⟨#[]⟩)
          refine body_cell2v rfl rfl (load_sc hr rfl) rfl ?_
          refine ⟨HWB.out.trans (hua.below (by have := HWB.out.size; omega) (fun k _ h => by have h : k = g := h; have := HGG.out; omega)), ?_⟩
          rw [HBE.out]
          exact rfl
      case inl =>
        have HM := Lib.hid hst.out.1
        have HU := Lib.hid hst.out.2
        clear hst
        by_cases hlt : j < rs.length
        case neg =>
          have hjn : j = rs.length := by have := HJ.out; omega
          have hm := HM.out
          have hu := HU.out
          rw [hjn, List.take_length] at hm hu
          have HBE : Hid (scrd X.data.toList d = .ok ((A.data.toList, B.data.toList, l, m), U.data.toList)) := Lib.hid (by rw [hu]; exact HBR.out.2 _ hm)
          obtain ⟨ao, cap, rfl⟩ := HLB.out.slice
          have hg0 : wr.cell? ⟨g, 0, none⟩ = some (.string ⟨#[]⟩) := row_cell HGR.out (j := 0) rfl
          have fg0 : wr.frozen? ⟨g, 0, none⟩ = false := row_thaw HGR.out 0
          have hg1 : wr.cell? ⟨g, 1, none⟩ = some (.string ⟨#[]⟩) := row_cell HGR.out (j := 1) rfl
          have fg1 : wr.frozen? ⟨g, 1, none⟩ = false := row_thaw HGR.out 1
          have hg2 : wr.cell? ⟨g, 2, none⟩ = some (.slice none 0 0) := row_cell HGR.out (j := 2) rfl
          have fg2 : wr.frozen? ⟨g, 2, none⟩ = false := row_thaw HGR.out 2
          have hg3 : wr.cell? ⟨g, 3, none⟩ = some (.int .u32 0) := row_cell HGR.out (j := 3) rfl
          have fg3 : wr.frozen? ⟨g, 3, none⟩ = false := row_thaw HGR.out 3
          have hg4 : wr.cell? ⟨g, 4, none⟩ = some (.string ⟨#[]⟩) := row_cell HGR.out (j := 4) rfl
          have fg4 : wr.frozen? ⟨g, 4, none⟩ = false := row_thaw HGR.out 4
          have hx0 : wr.cell? ⟨bx, 0, none⟩ = some (.string A) := row_cell HX1.out (j := 0) rfl
          have fx0 : wr.frozen? ⟨bx, 0, none⟩ = false := row_thaw HX1.out 0
          have hx1 : wr.cell? ⟨bx, 1, none⟩ = some (.string B) := row_cell HX1.out (j := 1) rfl
          have fx1 : wr.frozen? ⟨bx, 1, none⟩ = false := row_thaw HX1.out 1
          have hx2 : wr.cell? ⟨bx, 2, none⟩ = some (.slice ao l.length cap) := row_cell HX1.out (j := 2) rfl
          have fx2 : wr.frozen? ⟨bx, 2, none⟩ = false := row_thaw HX1.out 2
          have hx3 : wr.cell? ⟨bx, 3, none⟩ = some (.int .u32 (m : Int)) := row_cell HX1.out (j := 3) rfl
          have fx3 : wr.frozen? ⟨bx, 3, none⟩ = false := row_thaw HX1.out 3
          have hx4 : wr.cell? ⟨bx, 4, none⟩ = some (.string U) := row_cell HX1.out (j := 4) rfl
          have fx4 : wr.frozen? ⟨bx, 4, none⟩ = false := row_thaw HX1.out 4
          clear hm hu hjn
          go_wp2_with fail
          obtain ⟨hr, hua⟩ := sc_set HGR.out (.string A) (.string B) (.slice ao l.length cap) (.int .u32 (m : Int)) (.string U)
          refine body_cell2v rfl rfl (load_sc hr rfl) rfl ?_
          refine ⟨HWB.out.trans (hua.below (by have := HWB.out.size; omega) (fun k _ h => by have h : k = g := h; have := HGG.out; omega)), ?_⟩
          rw [HBE.out]
          exact ⟨_, rfl, ao, cap, rfl, KRels.upd hua (fun k hk h => by have h : k = g := h; have := HGX.out; omega) (fun k hk => by have := HB1.out.size; have := HBX.out; omega) _ _ _ HLB.out.krels⟩
        have HO := Lib.hid (own_below HO1.out (by rw [HBX.out]; exact HBR1.out))
        obtain ⟨gr, cg, hv, hg1, hg2, _, _⟩ := own_some HO.out (by omega)
        simp only [Value.slice.injEq] at hv
        obtain ⟨rfl, _, rfl⟩ := hv
        obtain ⟨r, HRJ⟩ : ∃ r, Hid (rs[j] = r) := ⟨_, Lib.hid rfl⟩
        have hr0 : wr.cell? ⟨gr, j * 5, none⟩ = some (.int .i64 (r.num : Int)) := by rw [HO.out.cellAt (j * 5) (by omega), show j * 5 = 5 * j + 0 by omega, mrecs_cell hlt (by omega), HRJ.out]; rfl
        have hr1 : wr.cell? ⟨gr, j * 5 + 1, none⟩ = some (.int .i64 (r.ty : Int)) := by rw [HO.out.cellAt (j * 5 + 1) (by omega), show j * 5 + 1 = 5 * j + 1 by omega, mrecs_cell hlt (by omega), HRJ.out]; rfl
        have hr2 : wr.cell? ⟨gr, j * 5 + 2, none⟩ = some (.int .u64 (r.n : Int)) := by rw [HO.out.cellAt (j * 5 + 2) (by omega), show j * 5 + 2 = 5 * j + 2 by omega, mrecs_cell hlt (by omega), HRJ.out]; rfl
        have hr3 : wr.cell? ⟨gr, j * 5 + 3, none⟩ = some (.string ⟨r.s.toArray⟩) := by rw [HO.out.cellAt (j * 5 + 3) (by omega), show j * 5 + 3 = 5 * j + 3 by omega, mrecs_cell hlt (by omega), HRJ.out]; rfl
        have hr4 : wr.cell? ⟨gr, j * 5 + 4, none⟩ = some (.string ⟨r.raw.toArray⟩) := by rw [HO.out.cellAt (j * 5 + 4) (by omega), show j * 5 + 4 = 5 * j + 4 by omega, mrecs_cell hlt (by omega), HRJ.out]; rfl
        have HTK : Hid (rs.take (j + 1) = rs.take j ++ [r]) := Lib.hid (by rw [List.take_succ_eq_append_getElem hlt, HRJ.out])
        have HRR : Hid (IsRec d r) := Lib.hid (HREC.out r (HRJ.out ▸ List.getElem_mem hlt))
        have HSUM : Hid (U.size + r.raw.length ≤ X.size ∧ r.raw.length ≤ X.size ∧ r.s.length + 1 ≤ r.raw.length) := Lib.hid (by
          have h1 := raws_le HRAW.out (j + 1)
          rw [HTK.out, List.flatMap_append, List.length_append] at h1
          have h2 := munk_le scF.tk (rs.take j)
          have h3 : U.size = (munk scF.tk (rs.take j)).length := by rw [← HU.out]; simp
          have h4 : ([r].flatMap Rec.raw).length = r.raw.length := by simp
          have h5 : X.data.toList.length = X.size := by simp
          have h6 := isrec_s HRR.out
          omega)
        go_wp2_with fail
        obtain ⟨rb, hrb⟩ : ∃ rb, wr.heap.size = rb := ⟨_, rfl⟩
        obtain ⟨W3, hW3⟩ : ∃ W3, wr.alloc (.cells #[.int .i64 (r.num : Int), .int .i64 (r.ty : Int), .int .u64 (r.n : Int), .string ⟨r.s.toArray⟩, .string ⟨r.raw.toArray⟩] 69) = W3 := ⟨_, rfl⟩
        have HB3 : Hid (Below wr.heap.size wr W3) := Lib.hid (by rw [← hW3]; exact below_new _ _)
        have HR3 : Hid (W3.heap[rb]? = some (.cells #[.int .i64 (r.num : Int), .int .i64 (r.ty : Int), .int .u64 (r.n : Int), .string ⟨r.s.toArray⟩, .string ⟨r.raw.toArray⟩] 69 (0, 0))) := Lib.hid (by rw [← hW3, ← hrb]; exact heap_alloc_new wr _)
        rw [hW3, hrb]
        clear hW3
        obtain ⟨D, hD⟩ : ∃ D, W3.drew = D := ⟨_, rfl⟩
        have HBD : Hid (Below wr.heap.size wr D) := Lib.hid (by rw [← hD]; exact HB3.out.drew)
        have HRD : Hid (D.heap[rb]? = some (.cells #[.int .i64 (r.num : Int), .int .i64 (r.ty : Int), .int .u64 (r.n : Int), .string ⟨r.s.toArray⟩, .string ⟨r.raw.toArray⟩] 69 (0, 0))) := Lib.hid (by rw [← hD]; exact HR3.out)
        have hne : Nonempty {w' : World // w'.heap[rb]? = some (.cells #[.int .i64 (r.num : Int), .int .i64 (r.ty : Int), .int .u64 (r.n : Int), .string ⟨r.s.toArray⟩, .string ⟨r.raw.toArray⟩] 69 (0, 0))} := ⟨⟨_, HRD.out⟩⟩
        refine wp_region_seq (S := fun w' => w'.heap[rb]? = some (.cells #[.int .i64 (r.num : Int), .int .i64 (r.ty : Int), .int .u64 (r.n : Int), .string ⟨r.s.toArray⟩, .string ⟨r.raw.toArray⟩] 69 (0, 0))) [(1, true), (0, false), (2, false), (3, true), (4, true)] (by kernel_rfl) (by kernel_rfl) (by kernel_rfl) (by kernel_rfl) (by rw [hD]; exact HRD.out) ?_
        rw [hD]
        clear hD hr0 hr1 hr2 hr3 hr4
        refine seq_take _ rfl (fun KK hK => ?_); go_simp
        refine ⟨.agg #[.int .i64 (r.num : Int), .int .i64 (r.ty : Int), .int .u64 (r.n : Int), .string ⟨r.s.toArray⟩, .string ⟨r.raw.toArray⟩], fun a ha => by (obtain ⟨e0, e1, e2, e3, e4⟩ := row5 ha); simp only [e0, e1, e2, e3, e4, Result.andThen], hK _ ?_⟩
        clear hK KK
        refine seq_come _ rfl (fun KK hK => ?_); go_simp
        refine (sc_tab D).mono ?_; rintro e w4 ⟨to, rfl, HNT, hb4⟩
        have HB4 := Lib.hid (below_step HBD.out hb4)
        have HR4 : Hid (w4.heap[rb]? = some (.cells #[.int .i64 (r.num : Int), .int .i64 (r.ty : Int), .int .u64 (r.n : Int), .string ⟨r.s.toArray⟩, .string ⟨r.raw.toArray⟩] 69 (0, 0))) := Lib.hid ((hb4.block _ (row_lt HRD.out)).trans HRD.out)
        go_simp; refine hK.out _ _ HR4.out ?_; clear hK KK hb4
        refine seq_come _ rfl (fun KK hK => ?_); go_simp
        refine (takes8_any [10, 18, 26, 32] to 4 r w4 HNT (by decide) (by decide)).mono ?_; rintro e w5 ⟨rfl, hb5⟩
        rw [← sc_rtk]
        have HB5 := Lib.hid (below_step HB4.out hb5)
        have HR5 : Hid (w5.heap[rb]? = some (.cells #[.int .i64 (r.num : Int), .int .i64 (r.ty : Int), .int .u64 (r.n : Int), .string ⟨r.s.toArray⟩, .string ⟨r.raw.toArray⟩] 69 (0, 0))) := Lib.hid ((hb5.block _ (row_lt HR4.out)).trans HR4.out)
        go_simp; refine hK.out _ _ HR5.out ?_; clear hK KK hb5
        iterate 2 (refine seq_take _ rfl (fun KK hK => ?_); go_simp; (first | refine hK _ ?_ | refine ⟨_, fun _ _ => rfl, hK _ ?_⟩); clear hK KK)
        refine seq_done ?_
        have HX5 : Hid (w5.heap[bx]? = some (.cells #[.string A, .string B, v, .int .u32 (m : Int), .string U] 26 (0, 0))) := Lib.hid ((HB5.out.block _ (row_lt HX1.out)).trans HX1.out)
        have HL5 : Hid (CLB kcel 78 (bx + 1) v l w5) := Lib.hid (HLB.out.upd (Upd.of_new (S := fun _ => False) HB5.out) (fun _ _ _ h => h))
        have HBR5 : Hid (Below bx w1 w5) := Lib.hid (HBR1.out.trans (HB5.out.mono (by have := row_lt HX1.out; omega)))
        have HRX : Hid (bx < rb) := Lib.hid (by have := row_lt HX1.out; omega)
        have hxb := row_lt HX5.out
        obtain ⟨S, hS⟩ : ∃ S : ByteArray, (⟨r.s.toArray⟩ : ByteArray) = S := ⟨_, rfl⟩
        obtain ⟨R, hR⟩ : ∃ S : ByteArray, (⟨r.raw.toArray⟩ : ByteArray) = S := ⟨_, rfl⟩
        have HSD : Hid (S.data.toList = r.s) := Lib.hid (by rw [← hS])
        have HRD2 : Hid (R.data.toList = r.raw) := Lib.hid (by rw [← hR])
        have HSZ : Hid (S.size = r.s.length) := Lib.hid (by rw [← HSD.out]; simp)
        rw [hS, hR] at HR5 ⊢
        clear hS hR hne hrb
        cases htk : scF.tk r with
        | false =>
          have HTN := Lib.hid htk
          have hsz : ¬ 9223372036854775807 < U.size + R.size := by
            have h1 : R.size = r.raw.length := by rw [← HRD2.out]; simp
            have h2 := HSUM.out
            have h3 := HSS.out
            omega
          have hxu : w5.cell? ⟨bx, 4, none⟩ = some (.string U) := row_cell HX5.out (j := 4) rfl
          have hxf : w5.frozen? ⟨bx, 4, none⟩ = false := row_thaw HX5.out 4
          have hr4 : w5.cell? ⟨rb, 4, none⟩ = some (.string R) := row_cell HR5.out (j := 4) rfl
          clear htk
          go_wp2_with fail
          have hj := HJ.out
          have hu := Upd.set w5 ⟨bx, 4, none⟩ (.string (U ++ R))
          go_roundg (gk - 1)
          case measure => omega
          case rel =>
            refine ⟨j + 1, v, U ++ R, A, B, l, m, by simp, by omega, HBR5.out.trans (hu.below (by omega) (fun k _ h => by have h : k = bx := h; omega)), row_set HX5.out 4 _, HL5.out.upd hu (fun k hk _ h => by have h : k = bx := h; omega), by omega, .inl ⟨rfl, Lib.hid ⟨?_, ?_⟩⟩⟩
            · rw [HTK.out]; exact mfoldk_no HM.out HTN.out
            · rw [HTK.out, munkk_no HTN.out, ByteArray.data_append, Array.toList_append, HU.out, HRD2.out]
        | true =>
          have HTN := Lib.hid htk
          have HMU : Hid (U.data.toList = munk scF.tk (rs.take (j + 1))) := Lib.hid (by rw [HTK.out, munkk_yes HTN.out, HU.out])
          have HMY : Hid (mfold (σ := List UInt8 × List UInt8 × List KV × Nat) scF.tk (scF.step d) scF.z (rs.take (j + 1)) = scF.step d (A.data.toList, B.data.toList, l, m) r) := Lib.hid (by rw [HTK.out]; exact mfoldk_yes HM.out HTN.out)
          have hr0 : w5.cell? ⟨rb, 0, none⟩ = some (.int .i64 (r.num : Int)) := row_cell HR5.out (j := 0) rfl
          have hr2 : w5.cell? ⟨rb, 2, none⟩ = some (.int .u64 (r.n : Int)) := row_cell HR5.out (j := 2) rfl
          have hr3 : w5.cell? ⟨rb, 3, none⟩ = some (.string S) := row_cell HR5.out (j := 3) rfl
          have hnum := htk
          rw [scF_tk] at hnum
          simp only [decide_eq_true_iff] at hnum
          clear htk
          by_cases hn1 : r.num = 1
          · have d1 : ((r.num : Int) == 1) = true := by rw [beq_iff_eq]; omega
            have hty : r.num = 1 ∧ r.ty = 2 := by omega
            have HSE := Lib.hid (scF_1 hty d (A.data.toList) (B.data.toList) l m)
            clear hty hnum hn1
            have hxc : w5.cell? ⟨bx, 0, none⟩ = some (.string A) := row_cell HX5.out (j := 0) rfl
            obtain ⟨D2, hD2⟩ : ∃ D, w5.drew = D := ⟨_, rfl⟩
            have HBD2 : Hid (Below w5.heap.size w5 D2) := Lib.hid (by rw [← hD2]; exact (Below.refl _ _).drew)
            have HX6 : Hid (D2.heap[bx]? = some (.cells #[.string A, .string B, v, .int .u32 (m : Int), .string U] 26 (0, 0))) := Lib.hid ((HBD2.out.block _ hxb).trans HX5.out)
            have hrD : D2.heap[rb]? = some (.cells #[.int .i64 (r.num : Int), .int .i64 (r.ty : Int), .int .u64 (r.n : Int), .string S, .string R] 69 (0, 0)) := (HBD2.out.block _ (row_lt HR5.out)).trans HR5.out
            have hne : Nonempty {w' : World // w'.heap[rb]? = some (.cells #[.int .i64 (r.num : Int), .int .i64 (r.ty : Int), .int .u64 (r.n : Int), .string S, .string R] 69 (0, 0))} := ⟨⟨_, hrD⟩⟩
            go_wp2_with fail
            have hfx : D2.frozen? ⟨bx, 0, none⟩ = false := row_thaw HX6.out 0
            have hcx : D2.cell? ⟨bx, 0, none⟩ = some (.string A) := row_cell HX6.out (j := 0) rfl
            refine wp_region_seq (S := fun w' => w'.heap[rb]? = some (.cells #[.int .i64 (r.num : Int), .int .i64 (r.ty : Int), .int .u64 (r.n : Int), .string S, .string R] 69 (0, 0))) [(0, true), (1, true), (2, true), (3, true), (5, true), (4, false), (6, false), (7, true)] (by kernel_rfl) (by kernel_rfl) (by kernel_rfl) (by kernel_rfl) (by rw [hD2]; exact hrD) ?_
            rw [hD2]
            clear hD2
            iterate 5 (refine seq_take _ rfl (fun KC hK => ?_); go_simp; (first | refine hK _ ?_ | refine ⟨_, fun _ _ => rfl, hK _ ?_⟩ | refine ⟨.string S, fun a ha => by rw [row_cell ha (j := 3) rfl]; rfl, hK _ ?_⟩); clear hK KC)
            refine seq_come _ rfl (fun KC hK => ?_); go_simp
            refine (text8_key S D2 (by have := HSZ.out; have := HSUM.out; have := HSS.out; omega)).mono ?_; rintro e wz ⟨rfl, rfl⟩
            go_simp; refine hK.out _ _ hrD ?_; clear hK KC
            refine seq_come _ rfl (fun KC hK => ?_); go_simp
            refine hK.out _ _ (((Upd.set D2 ⟨bx, 0, none⟩ (.string S)).block _ (row_lt hrD) (fun h => by have h : rb = bx := h; have := HRX.out; omega)).trans hrD) ?_; clear hK KC
            iterate 1 (refine seq_take _ rfl (fun KC hK => ?_); go_simp; (first | refine hK _ ?_ | refine ⟨_, fun _ _ => rfl, hK _ ?_⟩ | refine ⟨.string S, fun a ha => by rw [row_cell ha (j := 3) rfl]; rfl, hK _ ?_⟩); clear hK KC)
            refine seq_done ?_
            have hu := Upd.set D2 ⟨bx, 0, none⟩ (.string S)
            have HL6 : Hid (CLB kcel 78 (bx + 1) v l (D2.setCell ⟨bx, 0, none⟩ (.string S))) := Lib.hid ((HL5.out.upd (Upd.of_new (S := fun _ => False) HBD2.out) (fun _ _ _ h => h)).upd hu (fun k hk _ h => by have h : k = bx := h; omega))
            have HBR6 : Hid (Below bx w1 (D2.setCell ⟨bx, 0, none⟩ (.string S))) := Lib.hid ((HBR5.out.trans (HBD2.out.mono (by omega))).trans (hu.below (by have := HBD2.out.size; omega) (fun k _ h => by have h : k = bx := h; omega)))
            have hrow := row_set HX6.out 0 (.string S)
            have HST6 := Lib.hid hrow
            clear hu hrow hne hrD hfx hcx
            go_wp2_with fail
            have hj := HJ.out
            go_roundg (gk - 1)
            case measure => omega
            case rel =>
              refine ⟨j + 1, v, U, S, B, l, m, by simp, by omega, HBR6.out, HST6.out, HL6.out, by omega, ?_⟩
              rw [HSD.out]
              cases huv : uvalid r.s with
              | true => exact .inl ⟨rfl, Lib.hid ⟨by rw [HMY.out, HSE.out, if_pos huv] <;> rfl, HMU.out⟩⟩
              | false => exact .inr ⟨rfl, 5, mfoldk_err (j := j + 1) (by rw [HMY.out, HSE.out, if_neg (by rw [huv]; simp)] <;> rfl)⟩
          by_cases hn2 : r.num = 2
          · have d1 : ((r.num : Int) == 1) = false := by rw [beq_eq_false_iff_ne]; omega
            have d2 : ((r.num : Int) == 2) = true := by rw [beq_iff_eq]; omega
            have hty : r.num = 2 ∧ r.ty = 2 := by omega
            have HSE := Lib.hid (scF_2 hty d (A.data.toList) (B.data.toList) l m)
            clear hty hnum hn1 hn2
            have hxc : w5.cell? ⟨bx, 1, none⟩ = some (.string B) := row_cell HX5.out (j := 1) rfl
            obtain ⟨D2, hD2⟩ : ∃ D, w5.drew = D := ⟨_, rfl⟩
            have HBD2 : Hid (Below w5.heap.size w5 D2) := Lib.hid (by rw [← hD2]; exact (Below.refl _ _).drew)
            have HX6 : Hid (D2.heap[bx]? = some (.cells #[.string A, .string B, v, .int .u32 (m : Int), .string U] 26 (0, 0))) := Lib.hid ((HBD2.out.block _ hxb).trans HX5.out)
            have hrD : D2.heap[rb]? = some (.cells #[.int .i64 (r.num : Int), .int .i64 (r.ty : Int), .int .u64 (r.n : Int), .string S, .string R] 69 (0, 0)) := (HBD2.out.block _ (row_lt HR5.out)).trans HR5.out
            have hne : Nonempty {w' : World // w'.heap[rb]? = some (.cells #[.int .i64 (r.num : Int), .int .i64 (r.ty : Int), .int .u64 (r.n : Int), .string S, .string R] 69 (0, 0))} := ⟨⟨_, hrD⟩⟩
            go_wp2_with fail
            have hfx : D2.frozen? ⟨bx, 1, none⟩ = false := row_thaw HX6.out 1
            have hcx : D2.cell? ⟨bx, 1, none⟩ = some (.string B) := row_cell HX6.out (j := 1) rfl
            refine wp_region_seq (S := fun w' => w'.heap[rb]? = some (.cells #[.int .i64 (r.num : Int), .int .i64 (r.ty : Int), .int .u64 (r.n : Int), .string S, .string R] 69 (0, 0))) [(0, true), (1, true), (2, true), (3, true), (5, true), (4, false), (6, false), (7, true)] (by kernel_rfl) (by kernel_rfl) (by kernel_rfl) (by kernel_rfl) (by rw [hD2]; exact hrD) ?_
            rw [hD2]
            clear hD2
            iterate 5 (refine seq_take _ rfl (fun KC hK => ?_); go_simp; (first | refine hK _ ?_ | refine ⟨_, fun _ _ => rfl, hK _ ?_⟩ | refine ⟨.string S, fun a ha => by rw [row_cell ha (j := 3) rfl]; rfl, hK _ ?_⟩); clear hK KC)
            refine seq_come _ rfl (fun KC hK => ?_); go_simp
            refine (text8_key S D2 (by have := HSZ.out; have := HSUM.out; have := HSS.out; omega)).mono ?_; rintro e wz ⟨rfl, rfl⟩
            go_simp; refine hK.out _ _ hrD ?_; clear hK KC
            refine seq_come _ rfl (fun KC hK => ?_); go_simp
            refine hK.out _ _ (((Upd.set D2 ⟨bx, 1, none⟩ (.string S)).block _ (row_lt hrD) (fun h => by have h : rb = bx := h; have := HRX.out; omega)).trans hrD) ?_; clear hK KC
            iterate 1 (refine seq_take _ rfl (fun KC hK => ?_); go_simp; (first | refine hK _ ?_ | refine ⟨_, fun _ _ => rfl, hK _ ?_⟩ | refine ⟨.string S, fun a ha => by rw [row_cell ha (j := 3) rfl]; rfl, hK _ ?_⟩); clear hK KC)
            refine seq_done ?_
            have hu := Upd.set D2 ⟨bx, 1, none⟩ (.string S)
            have HL6 : Hid (CLB kcel 78 (bx + 1) v l (D2.setCell ⟨bx, 1, none⟩ (.string S))) := Lib.hid ((HL5.out.upd (Upd.of_new (S := fun _ => False) HBD2.out) (fun _ _ _ h => h)).upd hu (fun k hk _ h => by have h : k = bx := h; omega))
            have HBR6 : Hid (Below bx w1 (D2.setCell ⟨bx, 1, none⟩ (.string S))) := Lib.hid ((HBR5.out.trans (HBD2.out.mono (by omega))).trans (hu.below (by have := HBD2.out.size; omega) (fun k _ h => by have h : k = bx := h; omega)))
            have hrow := row_set HX6.out 1 (.string S)
            have HST6 := Lib.hid hrow
            clear hu hrow hne hrD hfx hcx
            go_wp2_with fail
            have hj := HJ.out
            go_roundg (gk - 1)
            case measure => omega
            case rel =>
              refine ⟨j + 1, v, U, A, S, l, m, by simp, by omega, HBR6.out, HST6.out, HL6.out, by omega, ?_⟩
              rw [HSD.out]
              cases huv : uvalid r.s with
              | true => exact .inl ⟨rfl, Lib.hid ⟨by rw [HMY.out, HSE.out, if_pos huv] <;> rfl, HMU.out⟩⟩
              | false => exact .inr ⟨rfl, 5, mfoldk_err (j := j + 1) (by rw [HMY.out, HSE.out, if_neg (by rw [huv]; simp)] <;> rfl)⟩
          by_cases hn3 : r.num = 3
          · have d1 : ((r.num : Int) == 1) = false := by rw [beq_eq_false_iff_ne]; omega
            have d2 : ((r.num : Int) == 2) = false := by rw [beq_eq_false_iff_ne]; omega
            have d3 : ((r.num : Int) == 3) = true := by rw [beq_iff_eq]; omega
            have hty : r.num = 3 ∧ r.ty = 2 := by omega
            have HSE := Lib.hid (scF_3 hty d (A.data.toList) (B.data.toList) l m)
            clear hty hnum hn1 hn2 hn3
            have q1 : IntKind.i64.wrap (d - 1) = d - 1 := IntWalk.i64_in _ (by have := HDD.out; have := HD0.out; omega)
            have HCV := Lib.hid ((both8_any 1000001 S (d - 1) w5 (by have := HSZ.out; have := HSUM.out; have := HSS.out; omega) (by have := HSZ.out; have := HSUM.out; have := HSS.out; omega) (by have := HDD.out; have := HD0.out; omega)).2)
            go_wp2_with fail
            refine HCV.out.mono ?_; intro e w6 hpost
            obtain ⟨hb6, hcase⟩ := hpost
            obtain ⟨gb, x, cs, rfl, hrel, hok, hno⟩ := kres hcase
            rw [HSD.out] at hok hno
            have HB6 := Lib.hid hb6
            have HOK := Lib.hid hok
            have HNO := Lib.hid hno
            have HREL := Lib.hid hrel
            obtain ⟨K0, h0, k, S1, b0, n, l1, ln, lc, mo, mn, mc, I0, U0, U1, hcs⟩ := hrel.form
            have HCS := Lib.hid hcs
            rw [hcs]
            clear hcs hrel hok hno hb6 hr0 hr2 hr3
            obtain ⟨css, Q, h1, h2, h3, h4⟩ := HL5.out
            obtain ⟨ao, cap, rfl⟩ := own_slice h1
            have HO5 := Lib.hid h1
            have H2 := Lib.hid h2
            have H3 := Lib.hid h3
            have H4 := Lib.hid h4
            clear h1 h2 h3 h4
            have HO6 := Lib.hid (own_below HO5.out HB6.out)
            have HX6 := Lib.hid ((HB6.out.block _ (row_lt HX5.out)).trans HX5.out)
            have hxlt := row_lt HX6.out
            have hx4 : (w6.alloc (.cells #[.string K0, .bool h0, .int .i64 k, .string S1, .bool b0, .int .u64 n, .slice l1 ln lc, .slice mo mn mc, .string I0, .string U0, .string U1] 78)).cell? ⟨bx, 2, none⟩ = some (.slice ao l.length cap) := row_cell ((Below.heap_alloc _ _ _ hxlt).trans HX6.out) (j := 2) rfl
            have hN7 : bx + 1 ≤ (w6.alloc (.cells #[.string K0, .bool h0, .int .i64 k, .string S1, .bool b0, .int .u64 n, .slice l1 ln lc, .slice mo mn mc, .string I0, .string U0, .string U1] 78)).heap.size := by simp; omega
            have hxm : l.length ≤ 1000000 := by omega
            have hnb : ¬ (Value.slice ao l.length cap).ownBlock = some bx := fun h => by have := (HO6.out.lt _ h).1; omega
            have HX8 : Hid ((w6.alloc (.cells #[.string K0, .bool h0, .int .i64 k, .string S1, .bool b0, .int .u64 n, .slice l1 ln lc, .slice mo mn mc, .string I0, .string U0, .string U1] 78)).heap[bx]? = some (.cells #[.string A, .string B, .slice ao l.length cap, .int .u32 (m : Int), .string U] 26 (0, 0))) := Lib.hid ((Below.heap_alloc _ _ _ hxlt).trans HX6.out)
            go_wp2_with (at_builtin; (refine wpList_app1_at (c := 1) (cs := [.string K0, .bool h0, .int .i64 k, .string S1, .bool b0, .int .u64 n, .slice l1 ln lc, .slice mo mn mc, .string I0, .string U0, .string U1]) rfl _ _ 23 rfl Tryz.elKL (by decide) (HO6.out.alloc _) rfl (by show Value.slice (some ⟨w6.heap.size + 1, 0, none⟩) 1 1 = _; simp) rfl (by simp [Value.oneCell']) (by unfold maxLen; omega) (by omega) hN7 ?_); intro g2 cap2 w9 hown9 hgrow9 hg9; have HX9 := Lib.hid ((hgrow9.block _ (row_lt HX8.out) (fun e => hnb e.symm)).trans HX8.out); have hf9 : w9.frozen? ⟨bx, 2, none⟩ = false := row_thaw HX9.out 2; have hc9 : w9.cell? ⟨bx, 2, none⟩ = some (.slice ao l.length cap) := row_cell HX9.out (j := 2) rfl)
            have hgu : Upd (fun k => (Value.slice ao l.length cap).ownBlock = some k) (w6.alloc (.cells #[.string K0, .bool h0, .int .i64 k, .string S1, .bool b0, .int .u64 n, .slice l1 ln lc, .slice mo mn mc, .string I0, .string U0, .string U1] 78)) w9 := Upd.of_grown hgrow9
            have hu6 : Upd (fun k => (Value.slice ao l.length cap).ownBlock = some k) w6 w9 := (Upd.alloc _ _ _).trans hgu
            have HL9 : Hid (CLB kcel 78 (bx + 1) (.slice (some ⟨g2, 0, none⟩) (l.length + 1) cap2) (l ++ [x]) w9) := Lib.hid (CLB.add HO5.out H2.out H3.out H4.out (by omega) HB6.out HREL.out hu6 (by rw [HCS.out]; exact hown9) (hg9.imp id (fun h => Nat.le_trans (Upd.alloc (fun _ => False) w6 _).size h)))
            have hu := Upd.set w9 ⟨bx, 2, none⟩ (.slice (some ⟨g2, 0, none⟩) (l.length + 1) cap2)
            have HL10 := Lib.hid (HL9.out.upd hu (fun k hk _ h => by have h : k = bx := h; omega))
            have HBR9 : Hid (Below bx w1 (w9.setCell ⟨bx, 2, none⟩ (.slice (some ⟨g2, 0, none⟩) (l.length + 1) cap2))) := Lib.hid (((HBR5.out.trans (HB6.out.mono (by omega))).trans (hu6.below (by omega) (fun k _ h => by have := (HO6.out.lt k h).1; omega))).trans (hu.below (by have := hu6.size; omega) (fun k _ h => by have h : k = bx := h; omega)))
            have hj := HJ.out
            go_roundg (gk - 1)
            case measure => omega
            case rel =>
              refine ⟨j + 1, .slice (some ⟨g2, 0, none⟩) (l.length + 1) cap2, U, A, B, l ++ [x], m, by simp, by omega, HBR9.out, row_set HX9.out 2 _, HL10.out, by simp; omega, ?_⟩
              cases gb with
              | true => exact .inl ⟨rfl, Lib.hid ⟨by rw [HMY.out, HSE.out, HOK.out rfl] <;> rfl, HMU.out⟩⟩
              | false =>
                obtain ⟨c, hc⟩ := HNO.out rfl
                exact .inr ⟨rfl, c, mfoldk_err (j := j + 1) (by rw [HMY.out, HSE.out, hc] <;> rfl)⟩
          have d1 : ((r.num : Int) == 1) = false := by rw [beq_eq_false_iff_ne]; omega
          have d2 : ((r.num : Int) == 2) = false := by rw [beq_eq_false_iff_ne]; omega
          have d3 : ((r.num : Int) == 3) = false := by rw [beq_eq_false_iff_ne]; omega
          have hty : r.num = 4 ∧ r.ty = 0 := by omega
          have HSE := Lib.hid (scF_4 hty d (A.data.toList) (B.data.toList) l m)
          clear hty hnum hn1 hn2 hn3
          have q1 := u32_wrap r.n
          have hxc : w5.cell? ⟨bx, 3, none⟩ = some (.int .u32 (m : Int)) := row_cell HX5.out (j := 3) rfl
          have hxf : w5.frozen? ⟨bx, 3, none⟩ = false := row_thaw HX5.out 3
          go_wp2_with fail
          have hj := HJ.out
          have hu := Upd.set w5 ⟨bx, 3, none⟩ (.int .u32 ((r.n % 4294967296 : Nat) : Int))
          go_roundg (gk - 1)
          case measure => omega
          case rel =>
            exact ⟨j + 1, v, U, A, B, l, r.n % 4294967296, by simp, by omega, HBR5.out.trans (hu.below (by omega) (fun k _ h => by have h : k = bx := h; omega)), row_set HX5.out 3 _, HL5.out.upd hu (fun k hk _ h => by have h : k = bx := h; omega), by omega, .inl ⟨rfl, Lib.hid ⟨by rw [HMY.out, HSE.out] <;> rfl, HMU.out⟩⟩⟩
end Go.Proofs.YtbdbmkmebeemoaaGreatDoor

namespace Go.Proofs.YtbdbmkmebeemoaaGreatDoor
open Go.RowKit

/-- a field's errors have codes that stand in the document's list -/
def Fld.Code (F : Fld) : Prop := ∀ d s r c, F.step d s r = .error c → VCode c
theorem Fld.Code.and {A B : Fld} (hA : A.Code) (hB : B.Code) : (A.and B).Code := fun d s r c h => by
  have h : (if A.tk r then (match A.step d s.1 r with
    | .error c => .error c
    | .ok a => .ok (a, s.2)) else (match B.step d s.2 r with
    | .error c => .error c
    | .ok b => .ok (s.1, b))) = (Except.error c : Except Nat (A.σ × B.σ)) := h
  split at h
  · cases ha : A.step d s.1 r with
    | error c' => rw [ha] at h; obtain rfl := Except.error.inj h; exact hA _ _ _ _ ha
    | ok a => rw [ha] at h; cases h
  · cases hb : B.step d s.2 r with
    | error c' => rw [hb] at h; obtain rfl := Except.error.inj h; exact hB _ _ _ _ hb
    | ok a => rw [hb] at h; cases h
theorem textF_code (num : Nat) : (textF num).Code := fun d s r c h => by
  have h : (if uvalid r.s then Except.ok r.s else .error 5) = (Except.error c : Except Nat (List UInt8)) := h
  split at h
  · cases h
  · exact .inr (Except.error.inj h).symm
theorem var32F_code (num : Nat) : (var32F num).Code := fun d s r c h => by
  have h : (Except.ok (r.n % 4294967296) : Except Nat Nat) = .error c := h
  cases h
theorem kvF_code (num : Nat) : (listF num kvS).Code := fun d (s : List KV) r c h => by
  have h : listStep kvS d s r = .error c := h
  unfold listStep at h
  cases hk : kvS.rd (d - 1) r.s with
  | error c' => rw [hk] at h; obtain rfl := Except.error.inj h; exact (both_code _).2 _ _ _ (show kread 1000001 r.s (d - 1) = _ from hk)
  | ok x => rw [hk] at h; cases h
theorem sc_code {l : List UInt8} {d : Int} {c : Nat} (h : scrd l d = .error c) : VCode c :=
  mread_code (σ := List UInt8 × List UInt8 × List KV × Nat) (fun st r c hs => ((textF_code 1).and ((textF_code 2).and ((kvF_code 3).and (var32F_code 4)))) d st r c hs) h
set_option maxRecDepth 1000000 in
set_option maxHeartbeats 16000000 in
theorem scrd_L (s : ByteArray) (d : Int) (w : World) (hs : 6000 < s.size) :
 Calls Tryz.prog 3 #[.string s, .int .i64 d] w fun e w' => e = .returned (.bool true) ∧ Below w.heap.size w w' := by
 have q0 : decide ((6000 : Int) < (s.size : Int)) = true := decide_eq_true (by omega)
 clear hs
 have H1 := Lib.hid (Fx.nil w)
 have hb : Below w.heap.size w w := Below.refl _ _
 have H2 := Lib.hid (H1.out.base (hb))
 clear H1
 clear hb
 go_enter Tryz.func3, Tryz.ntmps3
 go_wp2_with fail
 refine (first10 w).mono ?_; rintro e w1 ⟨rfl, hb⟩
 have H3 := Lib.hid (H2.out.below hb)
 clear hb H2
 go_wp2_with fail
 refine (first10 w1).mono ?_; rintro e w2 ⟨rfl, hb⟩
 have H4 := Lib.hid (H3.out.below hb)
 clear hb H3
 go_wp2_with fail
 go_ret
 exact ⟨rfl, H4.out.is.1⟩
set_option maxRecDepth 1000000 in
set_option maxHeartbeats 16000000 in
theorem scrd_A (s : ByteArray) (d : Int) (w : World) (hd : -9223372036854775808 ≤ d ∧ d ≤ 9223372036854775807) (hs : s.size ≤ 6000) (hg : Glob w) {c : Nat} (hx : scrd s.data.toList d = .error c) :
 Calls Tryz.prog 3 #[.string s, .int .i64 d] w fun e w' => e = .returned (.bool true) ∧ Below w.heap.size w w' := by
 have q0 : decide ((6000 : Int) < (s.size : Int)) = false := decide_eq_false (by omega)
 have hsl : s.data.toList.length = s.size := by simp
 have HS1 := Lib.hid (fun w' => unsc_any (Lib.hid ukey_any) s d w' (by omega) hd)
 have HS2 := Lib.hid (fun w' => sc_refread s d w' (by omega) hd)
 rw [hx] at HS1 HS2
 have HCD := Lib.hid (sc_code hx)
 have HG := Lib.hid hg
 clear hs hd hx hsl hg
 have hb : Below w.heap.size w w := Below.refl _ _
 have H1 := Lib.hid (Fx.nil w)
 have H2 := Lib.hid (H1.out.base (hb))
 clear H1
 clear hb
 go_enter Tryz.func3, Tryz.ntmps3
 go_wp2_with fail
 refine (first10 w).mono ?_; rintro e w1 ⟨rfl, hb⟩
 have H3 := Lib.hid (H2.out.below hb)
 clear hb H2
 go_wp2_with fail
 refine (HS1.out w1).mono ?_; rintro e w2 ⟨hb, v1, q1, rfl, hq, hew⟩
 obtain ⟨T1, y1, rfl⟩ := hew.iface
 have HQ := Lib.hid hq
 clear HS1 hq
 unfold sczero
 have H4 := Lib.hid (H3.out.below hb)
 clear hb H3
 have H5 := Lib.hid (H4.out.ew (hew))
 clear H4
 clear hew
 go_wp2_with fail
 obtain ⟨blr1, hbl⟩ : ∃ b, w2.heap.size = b := ⟨_, rfl⟩
 obtain ⟨W3, hW⟩ : ∃ W, w2.alloc (.cells #[.string ⟨#[]⟩, .string ⟨#[]⟩, .slice none 0 0, .int .u32 0, .string ⟨#[]⟩] 26) = W := ⟨_, rfl⟩
 have hb : Below w2.heap.size w2 W3 := by rw [← hW]; exact below_new _ _
 have hr : W3.heap[blr1]? = some (.cells #[.string ⟨#[]⟩, .string ⟨#[]⟩, .slice none 0 0, .int .u32 0, .string ⟨#[]⟩] 26 (0, 0)) := by rw [← hW, ← hbl]; exact new_row _ _ _
 rw [hW, hbl]
 clear hW hbl
 have H6 := Lib.hid (H5.out.below hb)
 clear hb H5
 have H7 := Lib.hid (H6.out.row (hr))
 clear H6
 clear hr
 refine (HS2.out W3).mono ?_; rintro e w4 ⟨hb, rfl⟩
 clear HS2
 unfold sczero
 have H8 := Lib.hid (H7.out.below hb)
 clear hb H7
 go_wp2_with fail
 obtain ⟨blr2, hbl⟩ : ∃ b, w4.heap.size = b := ⟨_, rfl⟩
 obtain ⟨W5, hW⟩ : ∃ W, w4.alloc (.cells #[.string ⟨#[]⟩, .string ⟨#[]⟩, .slice none 0 0, .int .u32 0, .string ⟨#[]⟩] 26) = W := ⟨_, rfl⟩
 have hb : Below w4.heap.size w4 W5 := by rw [← hW]; exact below_new _ _
 have hr : W5.heap[blr2]? = some (.cells #[.string ⟨#[]⟩, .string ⟨#[]⟩, .slice none 0 0, .int .u32 0, .string ⟨#[]⟩] 26 (0, 0)) := by rw [← hW, ← hbl]; exact new_row _ _ _
 rw [hW, hbl]
 clear hW hbl
 have H9 := Lib.hid (H8.out.below hb)
 clear hb H8
 have H10 := Lib.hid (H9.out.row (hr))
 clear H9
 clear hr
 refine (first10 W5).mono ?_; rintro e w6 ⟨rfl, hb⟩
 have H11 := Lib.hid (H10.out.below hb)
 clear hb H10
 go_wp2_with fail
 obtain ⟨ws, he⟩ := H11.out.is.2.2.1
 refine (wrong8_any q1 s.size c ws _ w6 he (HG.out.below (H11.out.is.2.2.2.1)) HQ.out HCD.out).mono ?_; rintro e w7 ⟨rfl, hb⟩
 clear he
 have H12 := Lib.hid (H11.out.below hb)
 clear hb H11
 obtain ⟨xa0, xa1, xa2, xa3, xa4⟩ := row5 (H12.out.is.2.1)
 obtain ⟨xb0, xb1, xb2, xb3, xb4⟩ := row5 (H12.out.is.1)
 go_wp2_with fail
 refine (sc_ref (([], [], [], 0), []) (([], [], [], 0), []) [.string ⟨#[]⟩, .string ⟨#[]⟩, .slice none 0 0, .int .u32 0, .string ⟨#[]⟩] [.string ⟨#[]⟩, .string ⟨#[]⟩, .slice none 0 0, .int .u32 0, .string ⟨#[]⟩] (fun _ => False) (fun _ => False) w7 (by rw [kslim]; trivial) (by simp) ⟨none, 0, rfl, by rw [KRels]; trivial⟩ ⟨none, 0, rfl, by rw [KRels]; trivial⟩).mono ?_; rintro e w9 ⟨rfl, hb⟩
 rw [alike_yes rfl]
 clear xa0 xa1 xa2 xa3 xa4 xb0 xb1 xb2 xb3 xb4
 have H13 := Lib.hid (H12.out.below hb)
 clear hb H12
 go_wp2_with fail
 go_ret
 exact ⟨rfl, H13.out.is.2.2.2.1⟩
set_option maxRecDepth 1000000 in
set_option maxHeartbeats 16000000 in
theorem scrd_C (s : ByteArray) (d : Int) (w : World) (hd : -9223372036854775808 ≤ d ∧ d ≤ 9223372036854775807) (hs : s.size ≤ 6000) {x : (List UInt8 × List UInt8 × List KV × Nat) × List UInt8} (hx : scrd s.data.toList d = .ok x) :
 Calls Tryz.prog 3 #[.string s, .int .i64 d] w fun e w' => e = .returned (.bool true) ∧ Below w.heap.size w w' := by
 have q0 : decide ((6000 : Int) < (s.size : Int)) = false := decide_eq_false (by omega)
 have hsl : s.data.toList.length = s.size := by simp
 have HS1 := Lib.hid (fun w' => unsc_any (Lib.hid ukey_any) s d w' (by omega) hd)
 have HS2 := Lib.hid (fun w' => sc_refread s d w' (by omega) hd)
 rw [hx] at HS1 HS2
 obtain ⟨⟨a, b, l, n0⟩, u⟩ := x
 obtain ⟨hmay, hfit⟩ := sc_twice (by omega) hx
 have HLIM := Lib.hid (sc_lim hfit)
 obtain ⟨S, hS⟩ : ∃ S : ByteArray, (⟨u.toArray⟩ : ByteArray) = S := ⟨_, rfl⟩
 have HSN := Lib.hid hS
 clear hmay hfit hS
 obtain ⟨AX, ha⟩ : ∃ X : ByteArray, (⟨a.toArray⟩ : ByteArray) = X := ⟨_, rfl⟩
 have HAN := Lib.hid ha
 clear ha
 obtain ⟨BX, hb⟩ : ∃ X : ByteArray, (⟨b.toArray⟩ : ByteArray) = X := ⟨_, rfl⟩
 have HBN := Lib.hid hb
 clear hb
 clear hs hd hx hsl
 have hb : Below w.heap.size w w := Below.refl _ _
 have H1 := Lib.hid (Fx.nil w)
 have H2 := Lib.hid (H1.out.base (hb))
 clear H1
 clear hb
 go_enter Tryz.func3, Tryz.ntmps3
 go_wp2_with fail
 refine (first10 w).mono ?_; rintro e w1 ⟨rfl, hb⟩
 have H3 := Lib.hid (H2.out.below hb)
 clear hb H2
 go_wp2_with fail
 refine (HS1.out w1).mono ?_; rintro e w2 ⟨hb, cs, rfl, lo1, lc1, rfl, hk1⟩
 clear HS1
 dsimp only [strV]
 rw [HSN.out, HAN.out, HBN.out]
 have H4 := Lib.hid (H3.out.below hb)
 clear hb H3
 have H5 := Lib.hid (H4.out.krels (hk1))
 clear H4
 clear hk1
 go_wp2_with fail
 obtain ⟨blr1, hbl⟩ : ∃ b, w2.heap.size = b := ⟨_, rfl⟩
 obtain ⟨W3, hW⟩ : ∃ W, w2.alloc (.cells #[.string AX, .string BX, .slice lo1 l.length lc1, .int .u32 (n0 : Int), .string S] 26) = W := ⟨_, rfl⟩
 have hb : Below w2.heap.size w2 W3 := by rw [← hW]; exact below_new _ _
 have hr : W3.heap[blr1]? = some (.cells #[.string AX, .string BX, .slice lo1 l.length lc1, .int .u32 (n0 : Int), .string S] 26 (0, 0)) := by rw [← hW, ← hbl]; exact new_row _ _ _
 rw [hW, hbl]
 clear hW hbl
 have H6 := Lib.hid (H5.out.below hb)
 clear hb H5
 have H7 := Lib.hid (H6.out.row (hr))
 clear H6
 clear hr
 refine (HS2.out W3).mono ?_; rintro e w4 ⟨hb, cs, rfl, lo2, lc2, rfl, hk2⟩
 clear HS2
 dsimp only [strV]
 rw [HSN.out, HAN.out, HBN.out]
 have H8 := Lib.hid (H7.out.below hb)
 clear hb H7
 have H9 := Lib.hid (H8.out.krels (hk2))
 clear H8
 clear hk2
 go_wp2_with fail
 obtain ⟨blr2, hbl⟩ : ∃ b, w4.heap.size = b := ⟨_, rfl⟩
 obtain ⟨W5, hW⟩ : ∃ W, w4.alloc (.cells #[.string AX, .string BX, .slice lo2 l.length lc2, .int .u32 (n0 : Int), .string S] 26) = W := ⟨_, rfl⟩
 have hb : Below w4.heap.size w4 W5 := by rw [← hW]; exact below_new _ _
 have hr : W5.heap[blr2]? = some (.cells #[.string AX, .string BX, .slice lo2 l.length lc2, .int .u32 (n0 : Int), .string S] 26 (0, 0)) := by rw [← hW, ← hbl]; exact new_row _ _ _
 rw [hW, hbl]
 clear hW hbl
 have H10 := Lib.hid (H9.out.below hb)
 clear hb H9
 have H11 := Lib.hid (H10.out.row (hr))
 clear H10
 clear hr
 refine (first10 W5).mono ?_; rintro e w6 ⟨rfl, hb⟩
 have H12 := Lib.hid (H11.out.below hb)
 clear hb H11
 obtain ⟨xa0, xa1, xa2, xa3, xa4⟩ := row5 (H12.out.is.2.2.1)
 obtain ⟨xb0, xb1, xb2, xb3, xb4⟩ := row5 (H12.out.is.1)
 go_wp2_with fail
 refine (sc_ref ((a, b, l, n0), u) ((a, b, l, n0), u) [.string AX, .string BX, .slice lo1 l.length lc1, .int .u32 (n0 : Int), .string S] [.string AX, .string BX, .slice lo2 l.length lc2, .int .u32 (n0 : Int), .string S] _ _ w6 HLIM.out.1 HLIM.out.2.1 ⟨lo1, lc1, by rw [← HSN.out, ← HAN.out, ← HBN.out]; rfl, H12.out.is.2.2.2.1⟩ ⟨lo2, lc2, by rw [← HSN.out, ← HAN.out, ← HBN.out]; rfl, H12.out.is.2.1⟩).mono ?_; rintro e w9 ⟨rfl, hb⟩
 rw [alike_yes rfl]
 clear xa0 xa1 xa2 xa3 xa4 xb0 xb1 xb2 xb3 xb4
 have H13 := Lib.hid (H12.out.below hb)
 clear hb H12
 go_wp2_with fail
 go_ret
 exact ⟨rfl, H13.out.is.2.2.2.2.1⟩
set_option maxRecDepth 1000000 in
set_option maxHeartbeats 16000000 in
theorem scrd_any (s : ByteArray) (d : Int) (w : World) (hd : -9223372036854775808 ≤ d ∧ d ≤ 9223372036854775807) (hg : Glob w) :
 Calls Tryz.prog 3 #[.string s, .int .i64 d] w fun e w' => e = .returned (.bool true) ∧ Below w.heap.size w w' := by
 by_cases hs : 6000 < s.size
 · exact scrd_L s d w hs
 cases hx : scrd s.data.toList d with
 | error c => exact scrd_A s d w hd (by omega) hg hx
 | ok x => exact scrd_C s d w hd (by omega) hx
end Go.Proofs.YtbdbmkmebeemoaaGreatDoor

namespace Go.Proofs.YtbdbmkmebeemoaaGreatDoor.scopeReads
open Go.ChangeShapes Go.WideShapes Go.ChangeAt Go.RowKit
open Go.ChangeMaps (open_string shut_string)

theorem reads (os : Os) {H : Type} (enc : TypeId × Value → H) : ∃ places, DataW.whole enc Tryz.prog ((laidWorld os).forCall (fun _ _ => 0) ⟨#[], #[.string .empty, .int .i64 0], []⟩).memory Tryz.f3.params.toList Rows.scopeReadsSpec.vars false (#[.string .empty, .int .i64 0] : Array Value).toList 8 = some ([.lit (.string []), .lit (.int .i64 0)], [], places) :=
  ⟨[], by kernel_rfl⟩
set_option maxRecDepth 100000 in
theorem lifted (os : Os) (started : os.Started) (H : Type) (enc : TypeId × Value → H) (F : Stop.Interp) :
    ReturnsInHanded {} Tryz.checked os 3 .any ((OpenSpec.ofChange Rows.scopeReadsSpec).preRow enc Tryz.prog Tryz.f3 Rows.scopeReadsRow.domain false Rows.scopeReadsRow.laid) (((OpenSpec.ofChange Rows.scopeReadsSpec).at F).post enc Tryz.prog Tryz.f3 false true false false) := by
  obtain ⟨places, hx⟩ := reads os enc
  refine returnsInHanded_of_row (C := Tryz.checked) (s := OpenSpec.ofChange Rows.scopeReadsSpec) Tryz.own started (by kernel_rfl) Tryz.func3
    (witness_row_at (enc := enc) (C := Tryz.checked) false (laidWorld os) #[.string .empty, .int .i64 0] rfl (by kernel_rfl) (by kernel_rfl) (by kernel_rfl)
      (OpenSpec.preRow_of_cond 8 hx (by kernel_rfl) (fun k hk => by cases hk) (by kernel_rfl) (laidWorld_met os _))) ?_
  intro W base args ds gs before hval0 hW _ _ _ hL _ _
  have hg : Glob W := glob_of_laid hL
  clear hL
  have hval : ∀ (j : Nat) t v, Tryz.f3.params[j]? = some t → args[j]? = some v → Value.okWide Tryz.prog W .any base t v := hval0
  have hW' := hW
  obtain ⟨p, q, hA0, hV, rfl, hfz, hnd⟩ := hW
  have hA : DataW.TrodAll enc Tryz.prog W 0 (fun _ => true) true Tryz.f3.params.toList args.toList ds p := hA0
  rw [Tryz.params3] at hA hval
  obtain ⟨v0, vs0, d0, ds0, p0, q0, hargs, rfl, rfl, h0, r0⟩ := trodAll_cons hA
  obtain ⟨v1, vs1, d1, ds1, p1, q1, rfl, rfl, rfl, h1, r1⟩ := trodAll_cons r0
  obtain ⟨rfl, rfl, rfl⟩ := trodAll_nil r1
  obtain rfl : args = #[v0, v1] := by cases args; simp_all
  have hpl : ∀ x ∈ p0 ++ (p1 ++ []), x.block < W.heap.size := fun x hx => by simpa using hW'.lt x (List.mem_append_left _ hx)
  obtain ⟨a0, rfl, rfl, rfl, z0⟩ := open_string Tryz.underlying9 (hval 0 9 v0 rfl rfl) h0
  obtain ⟨a1, rfl, rfl, rfl, w1⟩ := open_int Tryz.underlying3 (hval 1 3 v1 rfl rfl) h1
  have b1 : -9223372036854775808 ≤ a1 ∧ a1 ≤ 9223372036854775807 := by simp [Lit.wf, IntKind.min, IntKind.max, IntKind.signed, IntKind.bits] at w1; omega
  refine Calls.mono ?_ (fun e W' (h : e = .returned (.bool true) ∧ Below W.heap.size W W') => ⟨_, h.1, law_post (by kernel_rfl) (by kernel_rfl) rfl Tryz.underlying4 rfl hW' (fun ds hd => by match ds, hd with | [_, _], _ => rfl) h.2⟩)
  exact scrd_any a0 a1 W b1 hg

theorem over : Rows.ScopeReadsSaid :=
  OpenClaim.holds_of_cond 3 Tryz.f3 rfl rfl rfl rfl rfl rfl rfl ⟨rfl, rfl, rfl, rfl, rfl⟩ rfl rfl rfl rfl rfl (by kernel_rfl) Tryz.func3 (by kernel_rfl)
    (of_decide_eq_true (by kernel_rfl)) (by unfold Func.isWrapper; first | (rw [if_pos (by decide +kernel)]; kernel_rfl) | (rw [if_neg (by decide +kernel)]; exact ⟨rfl, rfl⟩))
    (fun os started H enc _ F => by rw [OpenClaim.pre_eq_preRow]; exact lifted os started H enc F)
theorem looks (f : FuncId) (fn : Func) (hf : Tryz.pinned.checked.prog.funcNamed "hygrometer/hyglaw10.ScopeReads" = some f) (hfn : Tryz.pinned.checked.prog.funcs[f]? = some fn) :
    true = Tryz.pinned.checked.prog.looks [] ∧ ∀ (j : Nat) t, fn.params[j]? = some t → Tryz.pinned.checked.prog.wantsStandIn t = false := by
  obtain rfl : f = 3 := Option.some.inj ((show Tryz.prog.funcNamed "hygrometer/hyglaw10.ScopeReads" = some 3 by kernel_rfl).symm.trans hf) |>.symm
  obtain rfl : fn = Tryz.f3 := (Option.some.inj (Tryz.func3.symm.trans hfn)).symm
  refine ⟨by kernel_rfl, fun j t ht => ?_⟩
  have hall : Tryz.f3.params.toList.all (fun t => Tryz.prog.wantsStandIn t == false) = true := by kernel_rfl
  have := List.all_eq_true.1 hall t (by simpa using Array.mem_of_getElem? ht)
  exact eq_of_beq this
theorem proved : Rows.ScopeReadsCardSaid :=
  Claim7.holds_tied_plain_at .later [] _ _ _ _ over (fun _ h => by cases h) (by kernel_rfl) (fun _ h => by cases h) scopeReads_row_tie rfl ⟨rfl, rfl⟩ (by kernel_rfl) rfl looks (by kernel_rfl)
end Go.Proofs.YtbdbmkmebeemoaaGreatDoor.scopeReads

