/-
  blame.Code, blame.Place, blame.Nums, blame.At, blame.In over a chain of wraps.
-/
import Derived.Test.YtlbfeknmbgjknaaDoorErrAs
namespace Go.Proofs.YtlbfeknmbgjknaaDoor
open Go.RowKit

/-- what errors.errorType holds -/
def Glob (w : World) : Prop := w.cell? ⟨0, 0, none⟩ = some (.iface 88 (.agg #[.pointer (some ⟨1, 26, none⟩)]))
theorem Glob.pos {w : World} (h : Glob w) : 0 < w.heap.size := by
  rcases Nat.eq_zero_or_pos w.heap.size with h0 | h1
  · simp [Glob, World.cell?, h0] at h
  · exact h1
theorem Glob.below {w w' : World} (h : Glob w) (hb : Below w.heap.size w w') : Glob w' := (hb.cell (p := ⟨0, 0, none⟩) h.pos).trans h
theorem Glob.alloc {w : World} (h : Glob w) (o : Obj) : Glob (w.alloc o) := h.below ((Below.refl _ _).alloc (Nat.le_refl _) o)
/-- an error: nil, or a root in wraps -/
def codeOf (r : Value) : Int := match r with
  | .iface 22 (.int .i64 c) => c
  | _ => 14

/-- the outermost place -/
def placeN (ws : List (Bool × Int)) : Int := match firstOf true ws with | some (n, _) => n | none => 0
def placeB (ws : List (Bool × Int)) : Bool := (firstOf true ws).isSome
theorem below_alloc (w : World) (o : Obj) : Below w.heap.size w (w.alloc o) := (Below.refl _ _).alloc (Nat.le_refl _) o
theorem below_trans {a b c : World} (h1 : Below a.heap.size a b) (h2 : Below b.heap.size b c) : Below a.heap.size a c := h1.trans (h2.mono h1.size)
theorem ownsRow_oneUpd {w w1 : World} {base : Nat} {e T : TypeId} {size : Nat} {v u : Value} {n t : Nat} {xs : List Value} (h : w.ownsRow base e size v n xs) (hu : OneUpd w w1 t T u) (ht : t < base) : w1.ownsRow base e size v n xs := by
  refine ⟨h.1, ?_⟩
  rcases h.2 with hn | ⟨g, cap, cur, rfl, hb, hgg, rest⟩
  · exact .inl hn
  · exact .inr ⟨g, cap, cur, rfl, hb, (hu.block g (Array.getElem?_eq_some_iff.1 hgg).1 (by omega)).trans hgg, rest⟩
theorem below_oneUpd {w0 w w1 : World} {B t : Nat} {T : TypeId} {u : Value} (h : Below B w0 w) (hu : OneUpd w w1 t T u) (ht : B ≤ t) (hs : t < w.heap.size) : Below B w0 w1 :=
  h.trans ⟨hu.os, hu.tape, hu.output, hu.size, fun k hk => hu.block k (by omega) (by omega)⟩
theorem errAs_nil (t : Value) (w : World) : Calls Tryd.prog 15 #[.nilIface, t] w fun e w' => e = .returned (.bool false) ∧ w = w' := by
  go_enter Tryd.func15, Tryd.ntmps15
  go_wp2
  go_ret
  exact ⟨rfl, rfl⟩
theorem code_nil (w : World) : Calls Tryd.prog 11 #[.nilIface] w fun e w' => e = .returned (.int .i64 0) ∧ w = w' := by
  go_enter Tryd.func11, Tryd.ntmps11
  go_wp2
  go_ret
  exact ⟨rfl, rfl⟩
set_option maxRecDepth 1000000 in
set_option maxHeartbeats 4000000 in
theorem code_any (ws : List (Bool × Int)) (v r : Value) (w : World) (he : isErr w ws v r) (hroot : isRoot r) (hg : Glob w) :
    Calls Tryd.prog 11 #[v] w fun e w' => e = .returned (.int .i64 (codeOf r)) ∧ Below w.heap.size w w' := by
  obtain ⟨T, x, rfl⟩ := isErr_iface he hroot
  have HE := Lib.hid he
  have HB := Lib.hid ((Below.refl _ w).alloc (Nat.le_refl _) (.cells #[.int .i64 0] 22))
  have HG := Lib.hid (hg.alloc (.cells #[.int .i64 0] 22))
  have HR := Lib.hid hroot
  clear he hg hroot
  go_enter Tryd.func11, Tryd.ntmps11
  go_wp2_with fail
  go_at_call 15
  refine (errAs_code ws _ r w.heap.size w _ HE.out HB.out HR.out (.int .i64 0) (heap_alloc_new w _) HG.out).mono ?_
  intro e w' hp
  have HP := Lib.hid hp
  clear hp
  rcases HR.out with ⟨c, rfl⟩ | ⟨y, rfl⟩
  · obtain ⟨rfl, hu⟩ := asCode_hit HP.out
    have hc : w'.cell? ⟨w.heap.size, 0, none⟩ = some (.int .i64 c) := by rw [cell_of_row w' _ 0 _ _ _ hu.cell]; rfl
    have HB := Lib.hid (oneUpd_below hu)
    clear hu
    go_wp2
    go_ret
    exact ⟨rfl, HB.out⟩
  · obtain ⟨rfl, hu⟩ := asCode_miss HP.out
    have HB := Lib.hid (oneUpd_below hu)
    clear hu
    go_wp2
    go_ret
    exact ⟨rfl, HB.out⟩
set_option maxRecDepth 1000000 in
set_option maxHeartbeats 4000000 in
theorem place_any (ws : List (Bool × Int)) (v r : Value) (w : World) (he : isErr w ws v r) (hroot : isRoot r) (hg : Glob w) :
    Calls Tryd.prog 10 #[v] w fun e w' => e = .returned (.tuple #[.int .i64 (placeN ws), .bool (placeB ws)]) ∧ Below w.heap.size w w' := by
  obtain ⟨T, x, rfl⟩ := isErr_iface he hroot
  have HE := Lib.hid he
  have HB0 := Lib.hid ((Below.refl _ w).alloc (Nat.le_refl _) (.cells #[.pointer none] 36))
  have HG := Lib.hid (hg.alloc (.cells #[.pointer none] 36))
  have HR := Lib.hid hroot
  clear he hg hroot
  go_enter Tryd.func10, Tryd.ntmps10
  go_wp2_with fail
  go_at_call 15
  refine (errAs_where ws _ r w.heap.size w _ HE.out HB0.out HR.out (.pointer none) (heap_alloc_new w _) HG.out).mono ?_
  intro e w' hp
  unfold AsWhere at hp
  cases hf : firstOf true ws with
  | none =>
    rw [hf] at hp
    obtain ⟨rfl, hu⟩ := hp
    have HB := Lib.hid (oneUpd_below hu)
    have h1 := Lib.hid (show placeN ws = 0 by unfold placeN; rw [hf])
    have h2 := Lib.hid (show placeB ws = false by unfold placeB; rw [hf]; rfl)
    clear hf hu
    go_wp2
    go_ret2
    exact ⟨by rw [h1.out, h2.out]; rfl, HB.out⟩
  | some y =>
    obtain ⟨n, rest⟩ := y
    rw [hf] at hp
    obtain ⟨a, y, rfl, hu, ha, hh, hr⟩ := hp
    have hc : w'.cell? ⟨w.heap.size, 0, none⟩ = some (.pointer (some ⟨a, 0, none⟩)) := by rw [cell_of_row w' _ 0 _ _ _ hu.cell]; rfl
    have hne : a ≠ w.heap.size := Nat.ne_of_lt ha
    have hc2 : w'.cell? ⟨a, 0, none⟩ = some (.int .i64 n) := by
      rw [cell_of_row w' a 0 _ _ _ ((hu.block a (by simp; omega) hne).trans ((Below.heap_alloc _ _ _ ha).trans hh))]; rfl
    have HB := Lib.hid (oneUpd_below hu)
    have h1 := Lib.hid (show placeN ws = n by unfold placeN; rw [hf])
    have h2 := Lib.hid (show placeB ws = true by unfold placeB; rw [hf]; rfl)
    clear hf hu ha hh hr
    go_wp2
    go_ret2
    exact ⟨by rw [h1.out, h2.out]; rfl, HB.out⟩

theorem place_nil (w : World) : Calls Tryd.prog 10 #[.nilIface] w fun e w' => e = .returned (.tuple #[.int .i64 0, .bool false]) ∧ Below w.heap.size w w' := by
  go_enter Tryd.func10, Tryd.ntmps10
  go_wp2_with (go_at_call 15; refine (errAs_nil _ _).mono ?_; rintro e w' ⟨rfl, rfl⟩)
  go_ret2
  exact ⟨rfl, (Below.refl _ _).alloc (Nat.le_refl _) _⟩

/-- the numbers of all fields, the outermost first -/
def fieldsOf : List (Bool × Int) → List Int
  | [] => []
  | (b, n) :: ws => if b then fieldsOf ws else n :: fieldsOf ws
theorem firstOf_fields {ws : List (Bool × Int)} : (firstOf false ws = none ∧ fieldsOf ws = []) ∨ ∃ n rest, firstOf false ws = some (n, rest) ∧ fieldsOf ws = n :: fieldsOf rest ∧ rest.length < ws.length := by
  induction ws with
  | nil => exact .inl ⟨rfl, rfl⟩
  | cons y ws ih =>
    obtain ⟨b, n⟩ := y
    cases b with
    | false => exact .inr ⟨n, ws, rfl, rfl, by simp⟩
    | true =>
      rcases ih with ⟨h1, h2⟩ | ⟨m, rest, h1, h2, h3⟩
      · exact .inl ⟨by simpa [firstOf] using h1, by simpa [fieldsOf] using h2⟩
      · exact .inr ⟨m, rest, by simpa [firstOf] using h1, by simpa [fieldsOf] using h2, by simp; omega⟩
def ints (l : List Int) : List Value := l.map (Value.int .i64)
theorem Tryd.elInt : Elem Tryd.prog 31 3 (.int .i64 0) 1 8 := ⟨Tryd.underlying31, by kernel_rfl, by decide⟩

set_option maxRecDepth 1000000 in
set_option maxHeartbeats 4000000 in
theorem nums_any (ws : List (Bool × Int)) (v r : Value) (w : World) (he : isErr w ws v r) (hroot : isRoot r) (hg : Glob w) (hlen : ws.length ≤ 1000) :
    Calls Tryd.prog 12 #[v] w fun e w' => ∃ u, e = .returned u ∧ w'.ownsRow (w.heap.size + 1) 3 1 u (fieldsOf ws).length (ints (fieldsOf ws)) ∧ Below w.heap.size w w' := by
  have HR := Lib.hid hroot
  have HG := Lib.hid hg
  clear hroot hg
  go_enter Tryd.func12, Tryd.ntmps12
  go_wp2
  have HE0 := Lib.hid he
  have hlt0 := Lib.hid hlen
  clear he hlen
  go_loopg [0, 3] ws.length (fun k v u wr => ∃ ws' acc, ws'.length ≤ k ∧ isErr w ws' v r ∧ fieldsOf ws = acc ++ fieldsOf ws' ∧ acc.length + ws'.length ≤ ws.length ∧ wr.ownsRow (w.heap.size + 1) 3 1 u acc.length (ints acc) ∧ (∃ old, wr.heap[w.heap.size]? = some (.cells #[old] 37 (0, 0))) ∧ Below w.heap.size w wr)
  case atStart => exact ⟨ws, [], Nat.le_refl _, HE0.out, rfl, by simp, World.ownsRow_nil _ _ _ _, ⟨_, heap_alloc_new w _⟩, below_alloc w _⟩
  case round =>
    obtain ⟨ws', acc, hk, hr, hf, hlen, hown, ⟨old, ht⟩, hb⟩ := hrel
    have HE := Lib.hid hr
    have HF := Lib.hid hf
    have HK := Lib.hid hk
    have HT := Lib.hid ht
    clear hr hf hk ht
    go_wp2_with fail
    go_at_call 15
    refine (errAs_field ws' _ r w.heap.size w wr HE.out hb HR.out old HT.out (HG.out.below hb)).mono ?_
    intro e w1 hp
    unfold AsField at hp
    rcases firstOf_fields (ws := ws') with ⟨h1, h2⟩ | ⟨n, rest, h1, h2, h3⟩
    · rw [h1] at hp
      obtain ⟨rfl, hu⟩ := hp
      have HU := Lib.hid hu
      have HF2 : Hid (fieldsOf ws = acc) := Lib.hid (by rw [HF.out, h2, List.append_nil])
      clear hu h1 h2
      go_wp2
      go_ret
      refine ⟨_, rfl, ?_, ?_⟩
      · rw [HF2.out]; exact ownsRow_oneUpd hown HU.out (Nat.lt_succ_self _)
      · exact below_oneUpd hb HU.out (Nat.le_refl _) (Array.getElem?_eq_some_iff.1 HT.out).1
    · rw [h1] at hp
      obtain ⟨a, x, rfl, hu, ha, hh, hr⟩ := hp
      have hsz : w.heap.size < wr.heap.size := (Array.getElem?_eq_some_iff.1 HT.out).1
      have hne : a ≠ w.heap.size := Nat.ne_of_lt ha
      have hblk : w1.heap[a]? = some (.cells #[.int .i64 n, x] 44 (0, 0)) := (hu.block a (by omega) hne).trans ((hb.block a ha).trans hh)
      have hc0 : w1.cell? ⟨w.heap.size, 0, none⟩ = some (.pointer (some ⟨a, 0, none⟩)) := by rw [cell_of_row w1 _ 0 _ _ _ hu.cell]; rfl
      have hc1 : w1.cell? ⟨a, 0, none⟩ = some (.int .i64 n) := by rw [cell_of_row w1 a 0 _ _ _ hblk]; rfl
      have hc2 : w1.cell? ⟨a, 1, none⟩ = some x := by rw [cell_of_row w1 a 1 _ _ _ hblk]; rfl
      have hown1 : w1.ownsRow (w.heap.size + 1) 3 1 u3 acc.length (ints acc) := ownsRow_oneUpd hown hu (Nat.lt_succ_self _)
      have hl := hlt0.out
      have hbs : w.heap.size + 1 ≤ w1.heap.size := Nat.le_trans hsz hu.size
      have H3 := Lib.hid h3
      have H2 := Lib.hid h2
      have HU := Lib.hid hu
      have HH := Lib.hid hh
      have HRR := Lib.hid hr
      have HBLK := Lib.hid hblk
      clear h1 h2 h3 hu hh hr hblk
      go_wp2_with (at_builtin; refine wpList_app1 rfl _ _ 31 rfl Tryd.elInt (by decide) hown1 rfl rfl rfl (by simp [Value.oneCell']) (by unfold maxLen; omega) (by omega) hbs ?_; intro v' w2 hown' hgrow; have hcc0 : w2.cell? ⟨w.heap.size, 0, none⟩ = some (.pointer (some ⟨a, 0, none⟩)) := hgrow.cell hc0 (fun h => by have := hown1.lt _ h.symm; simp at this; omega); have hcc2 : w2.cell? ⟨a, 1, none⟩ = some x := hgrow.cell hc2 (fun h => by have := hown1.lt _ h.symm; simp at this; omega))
      have hlt3 : rest.length < gk := Nat.lt_of_lt_of_le H3.out HK.out
      have h3 := H3.out
      go_roundg rest.length
      case measure => exact hlt3
      case rel =>
        refine ⟨rest, acc ++ [n], Nat.le_refl _, HRR.out, by rw [HF.out, H2.out]; simp, by simp; omega, by simpa [ints] using hown', ⟨_, (hgrow.block _ (by omega) (fun h => by have := hown1.lt _ h.symm; omega)).trans HU.out.cell⟩, ?_⟩
        exact (below_oneUpd hb HU.out (Nat.le_refl _) hsz).grown hgrow (by omega) (fun k hk => by have := hown1.lt _ hk; omega)

end Go.Proofs.YtlbfeknmbgjknaaDoor
