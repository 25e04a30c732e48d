/-
  Takers of messages with a list: what they share.
-/
import Derived.Test.YtandoppfbilhbaaGreatDoorFldB
import Derived.Test.YtandoppfbilhbaaGreatDoorAdd
import Derived.Test.YtandoppfbilhbaaGreatDoorMsgUn
import Derived.Test.YtandoppfbilhbaaGreatDoorIn
import Derived.Test.YtandoppfbilhbaaGreatDoorFx
namespace Go.Proofs.YtandoppfbilhbaaGreatDoor
open Go.RowKit

theorem apart_of {A B : Fld} (h : ∀ r, A.tk r = true → B.tk r = false) : A.Apart B := fun r hr => by rw [h r hr.1] at hr; cases hr.2
theorem kv_ok {num : Nat} {d : Int} {l : List KV} {r : Rec} {x : KV} (e : kread 1000001 r.s (d - 1) = .ok x) : (listF num kvS).step d l r = .ok (l ++ [x]) := by
  show listStep kvS d l r = _
  unfold listStep
  rw [show kvS.rd (d - 1) r.s = .ok x from e]
  rfl
theorem kv_no {num : Nat} {d : Int} {l : List KV} {r : Rec} {c : Nat} (e : kread 1000001 r.s (d - 1) = .error c) : (listF num kvS).step d l r = .error c := by
  show listStep kvS d l r = _
  unfold listStep
  rw [show kvS.rd (d - 1) r.s = .error c from e]
  rfl
theorem text_ok {num : Nat} {d : Int} {a : List UInt8} {r : Rec} (e : uvalid r.s = true) : (textF num).step d a r = .ok r.s := if_pos e
theorem text_no {num : Nat} {d : Int} {a : List UInt8} {r : Rec} (e : uvalid r.s = false) : (textF num).step d a r = .error 5 := if_neg (by rw [e]; simp)
/-- a taker, with the depth that its closure holds at bd -/
def capT {σ : Type} (R : Taker σ) (bd : Nat) (D : Int) : Taker σ where
  rel st P w := ∃ P0, R.rel st P0 w ∧ ¬ P0 bd ∧ w.heap[bd]? = some (.cells #[.int .i64 D] 3 (0, 0)) ∧ P = fun k => P0 k ∨ k = bd
  lt := by
    rintro st P w ⟨P0, h1, _, h2, rfl⟩ k (hk | rfl)
    · exact R.lt _ _ _ h1 k hk
    · exact row_lt h2
  kept := by
    rintro st P w w' ⟨P0, h1, h0, h2, rfl⟩ hu
    exact ⟨P0, R.kept _ _ _ _ h1 (hu.mono fun k _ h h' => h (.inl h')), h0, (hu.block bd (row_lt h2) (fun h => h (.inr rfl))).trans h2, rfl⟩
/-- a message at block bx, with one list -/
def rowT {σ α : Type} (C : Cel α) (T T0 : TypeId) (row : σ → Value → Array Value) (ls : σ → List α) (bx : Nat) : Taker σ where
  rel st P w := ∃ v P1, w.heap[bx]? = some (.cells (row st v) T0 (0, 0)) ∧ LsAt C T (bx + 1) v (ls st) P1 w ∧ P = fun k => k = bx ∨ P1 k
  lt := by
    rintro st P w ⟨v, P1, h1, h2, rfl⟩ k (rfl | hk)
    · exact row_lt h1
    · exact (h2.lt k hk).2
  kept := by
    rintro st P w w' ⟨v, P1, h1, h2, rfl⟩ hu
    exact ⟨v, P1, (hu.block bx (row_lt h1) (fun h => h (.inl rfl))).trans h1, h2.kept (hu.mono fun k _ h h' => h (.inr h')), rfl⟩
/-- one cell of it written -/
theorem rowT_set {σ α : Type} {C : Cel α} {T T0 : TypeId} {row : σ → Value → Array Value} {ls : σ → List α} {bx : Nat} {st st' : σ} {v : Value} {P1 : Nat → Prop} {w : World} (o : Nat) (u : Value) (h1 : w.heap[bx]? = some (.cells (row st v) T0 (0, 0))) (h2 : LsAt C T (bx + 1) v (ls st) P1 w) (hr : (row st v).setIfInBounds o u = row st' v) (hl : ls st' = ls st) :
    (rowT C T T0 row ls bx).rel st' (fun k => k = bx ∨ P1 k) (w.setCell ⟨bx, o, none⟩ u) ∧ Upd (fun k => k = bx) w (w.setCell ⟨bx, o, none⟩ u) := by
  have hu := Upd.set w ⟨bx, o, none⟩ u
  refine ⟨⟨v, P1, hr ▸ row_set h1 o u, ?_, rfl⟩, hu⟩
  rw [hl]
  exact h2.kept (hu.mono fun k _ h h' => by have h : k = bx := h; have := (h2.lt k h').1; omega)
/-- one more of its list -/
theorem rowT_add {σ α : Type} {C : Cel α} {T T0 : TypeId} {row : σ → Value → Array Value} {ls : σ → List α} {bx o : Nat} {st st' : σ} {v : Value} {x : α} {P1 : Nat → Prop} {w : World} {e : Ending} {w' : World} (h : AddPost C T T0 bx o (bx + 1) (row st v) (ls st) P1 (.ok x) w e w') (hr : ∀ v', (row st v).setIfInBounds o v' = row st' v') (hl : ls st' = ls st ++ [x]) :
    e = .returned .nilIface ∧ Upd (fun k => k = bx ∨ P1 k) w w' ∧ ∃ P', (rowT C T T0 row ls bx).rel st' P' w' ∧ ∀ k, P' k → (k = bx ∨ P1 k) ∨ w.heap.size ≤ k := by
  obtain ⟨hu, he, v', P', h1, h2, h3⟩ := h
  refine ⟨he, hu, _, ⟨v', P', hr v' ▸ h1, hl ▸ h2, rfl⟩, ?_⟩
  rintro k (rfl | hk)
  · exact .inl (.inl rfl)
  · exact (h3 k hk).imp .inr id
theorem takepost_no {σ : Type} {R : Taker σ} {step : σ → Rec → Except Nat σ} {st : σ} {P : Nat → Prop} {r : Rec} {w w' : World} {v : Value} {c : Nat} (hs : step st r = .error c) (hu : Upd P w w') (he : EC w' v c) : TakePost R step st P r w (.returned v) w' := ⟨hu, by rw [hs]; exact ⟨v, rfl, he⟩⟩
theorem takepost_ok {σ : Type} {R : Taker σ} {step : σ → Rec → Except Nat σ} {st st' : σ} {P P' : Nat → Prop} {r : Rec} {w w' : World} (hs : step st r = .ok st') (hu : Upd P w w') (hr : R.rel st' P' w') (hp : ∀ k, P' k → P k ∨ w.heap.size ≤ k) : TakePost R step st P r w (.returned .nilIface) w' := ⟨hu, by rw [hs]; exact ⟨rfl, P', hr, hp⟩⟩
/-- from a taker to the one whose closure holds the depth -/
theorem capT_post {σ : Type} {R : Taker σ} {bd : Nat} {D : Int} {step : σ → Rec → Except Nat σ} {st : σ} {P0 : Nat → Prop} {r : Rec} {w : World} {e : Ending} {w' : World} (h : TakePost R step st P0 r w e w') (h0 : ¬ P0 bd) (h2 : w.heap[bd]? = some (.cells #[.int .i64 D] 3 (0, 0))) : TakePost (capT R bd D) step st (fun k => P0 k ∨ k = bd) r w e w' := by
  obtain ⟨hu, hc⟩ := h
  refine ⟨hu.mono fun k _ h => .inl h, ?_⟩
  cases hs : step st r with
  | error c => rw [hs] at hc; exact hc
  | ok st' =>
    rw [hs] at hc
    obtain ⟨he, P', h3, h4⟩ := hc
    have hb := row_lt h2
    refine ⟨he, _, ⟨P', h3, fun h => ?_, (hu.block bd hb h0).trans h2, rfl⟩, ?_⟩
    · rcases h4 bd h with h | h
      · exact h0 h
      · omega
    · rintro k (hk | rfl)
      · exact (h4 k hk).imp .inl id
      · exact .inl (.inr rfl)
/-- reading attributes, any text -/
def UKey : Prop := ∀ (Y : ByteArray) (d' : Int) (w' : World), Y.size ≤ 1000000 → -9223372036854775808 ≤ d' ∧ d' ≤ 9223372036854775807 → Calls Tryz.prog 87 #[.string Y, .int .i64 d'] w' (RdPost kcel kzero (kread 1000001 Y.data.toList d') Y.size w')
theorem u32_wrap (n : Nat) : IntKind.u32.wrap (n : Int) = ((n % 4294967296 : Nat) : Int) := by
  show ((n : Int) % 4294967296) = _
  omega
theorem kv_len {num : Nat} {d : Int} {l : List KV} {t : Nat} (h : (listF num kvS).inv d l t) : l.length * 40 ≤ 51 * t := by
  have h1 : lsum (l.map kvS.wt) ≤ 51 * t := h.2
  have h2 := kvs_wt num l
  have h2 : lsum (l.map kvS.wt) = ksw l := h2
  have := ksw_len l
  omega
theorem tlen_le (tk : Rec → Bool) (rs : List Rec) : tlen tk rs ≤ (rs.flatMap Rec.raw).length := by have := tlen_munk tk rs; omega
set_option maxRecDepth 1000000 in
set_option maxHeartbeats 8000000 in
theorem mread_neg (FT FK : Nat) (caps : Array Value) (s : ByteArray) (d : Int) (w : World) (hd : d < 0) :
    Calls Tryz.prog 39 #[.string s, .int .i64 d, .func (.func FT) #[] #[], .func (.func FK) #[] caps] w fun e w' => ∃ v, e = .returned (.tuple #[.string ⟨#[]⟩, v]) ∧ Below w.heap.size w w' ∧ EW w' v 0 6 := by
  have d1 : decide (d < 0) = true := decide_eq_true hd
  clear hd
  go_enter Tryz.func39, Tryz.ntmps39
  go_wp2_with fail
  refine (at_any _ _ _ _).mono ?_; rintro e w' ⟨rfl, rfl⟩
  go_wp2_with fail
  go_ret2
  exact ⟨_, rfl, below_new _ _, ew_at ⟨[], rfl⟩⟩
end Go.Proofs.YtandoppfbilhbaaGreatDoor
