/-
  message.Writer: New, Ask, fail, Put, Var, Bytes, Rest, End.
-/
import Derived.Test.YtdokbooggbiciaaMsgRead
import Derived.Test.YtdokbooggbiciaaWireW
import Derived.Test.YtdokbooggbiciaaWpApp
import Derived.Test.YtdokbooggbiciaaOrdB
namespace Go.Proofs.Ytdokbooggbiciaa
open Go.RowKit

/-- no error, or one that says: it may not be -/
def EV8 (b : Bool) (w : World) (ev : Value) : Prop := if b then EC w ev 8 else ev = .nilIface
theorem EV8.no {w : World} {ev : Value} (h : EV8 false w ev) : ev = .nilIface := h
theorem EV8.yes {w : World} {ev : Value} (h : EV8 true w ev) : EC w ev 8 := h
theorem EV8.upd {S : Nat → Prop} {b : Bool} {w w' : World} {ev : Value} (h : EV8 b w ev) (hu : Upd S w w') (hS : ∀ k, S k → ∀ (b : Bool) (n : Int) (e : Value), w.heap[k]? ≠ some (.cells #[.int .i64 n, e] (wrapS b) (0, 0))) : EV8 b w' ev := by
  cases b with
  | false => exact h
  | true =>
    obtain ⟨ws, h⟩ := h
    exact ⟨ws, isErr_upd hu hS h⟩
/-- a Writer at block p: its depth, what stands open, its parts, has it failed -/
def WrAt (p : Nat) (d : Int) (vo : Value) (ps : List (List UInt8)) (b : Bool) (P : Nat → Prop) (w : World) : Prop := ∃ vp ev, w.heap[p]? = some (.cells #[.int .i64 d, vp, .int .i64 (ps.flatten.length : Int), vo, ev] 84 (0, 0)) ∧ w.ownsRow (p + 1) 9 1 vp ps.length (ps.map strV) ∧ EV8 b w ev ∧ P = fun k => k = p ∨ vp.ownBlock = some k
theorem own_type {w : World} {base : Nat} {e : TypeId} {size : Nat} {v : Value} {n : Nat} {xs : List Value} (h : w.ownsRow base e size v n xs) {k : Nat} (hk : v.ownBlock = some k) : ∃ cur, w.heap[k]? = some (.cells cur e (0, 0)) := by
  rcases h.2 with ⟨rfl, _⟩ | ⟨g, cap, cur, rfl, _, hg, _⟩
  · simp [Value.ownBlock] at hk
  · have : g = k := by simpa [Value.ownBlock] using hk
    subst this
    exact ⟨cur, hg⟩
theorem str_not_wrap (b : Bool) : (9 : TypeId) ≠ wrapS b := by cases b <;> decide
theorem wr_not {p : Nat} {d : Int} {vo : Value} {ps : List (List UInt8)} {b : Bool} {P : Nat → Prop} {w : World} (h : WrAt p d vo ps b P w) (k : Nat) (hk : P k) (c : Bool) (n : Int) (e : Value) : w.heap[k]? ≠ some (.cells #[.int .i64 n, e] (wrapS c) (0, 0)) := by
  obtain ⟨vp, ev, h1, h2, h3, rfl⟩ := h
  intro hh
  rcases hk with rfl | hk
  · rw [h1] at hh; simp at hh
  · obtain ⟨cur, hc⟩ := own_type h2 hk
    rw [hc] at hh
    simp only [Option.some.injEq, Obj.cells.injEq] at hh
    exact str_not_wrap c hh.2.1
theorem wr_lt {p : Nat} {d : Int} {vo : Value} {ps : List (List UInt8)} {b : Bool} {P : Nat → Prop} {w : World} (h : WrAt p d vo ps b P w) (k : Nat) (hk : P k) : p ≤ k ∧ k < w.heap.size := by
  obtain ⟨vp, ev, h1, h2, h3, rfl⟩ := h
  rcases hk with rfl | hk
  · exact ⟨Nat.le_refl _, row_lt h1⟩
  · have := h2.lt k hk; omega
theorem wr_below {p : Nat} {d : Int} {vo : Value} {ps : List (List UInt8)} {b : Bool} {P : Nat → Prop} {w w' : World} (h : WrAt p d vo ps b P w) (hb : Below w.heap.size w w') : WrAt p d vo ps b P w' := by
  obtain ⟨vp, ev, h1, h2, h3, rfl⟩ := h
  have hu : Upd (fun _ => False) w w' := Upd.of_new hb
  exact ⟨vp, ev, (hu.block p (row_lt h1) (fun h => h)).trans h1, hu.own h2 (fun _ _ h => h), h3.upd hu (fun _ h => h.elim), rfl⟩
/-- the parts, if it has not failed -/
def wps : Bool → List (List UInt8) → List (List UInt8) → List (List UInt8)
  | true, ps, _ => ps
  | false, ps, ts => ps ++ ts
theorem wps_nil (b : Bool) (ps : List (List UInt8)) : wps b ps [] = ps := by cases b <;> simp [wps]
def wvarP (num n : Nat) : List (List UInt8) := if n = 0 then [] else [wrec num 0 (vput n)]
theorem wvarP_0 (num : Nat) : wvarP num 0 = [] := if_pos rfl
theorem wvarP_1 {num n : Nat} (h : n ≠ 0) : wvarP num n = [wrec num 0 (vput n)] := if_neg h
/-- behind a call on a Writer -/
def WrPost (p : Nat) (d : Int) (vo : Value) (ps : List (List UInt8)) (b : Bool) (P : Nat → Prop) (w : World) (e : Ending) (w' : World) : Prop :=
  e = .returned (.tuple #[]) ∧ Upd P w w' ∧ ∃ P', WrAt p d vo ps b P' w' ∧ ∀ k, P' k → P k ∨ w.heap.size ≤ k
theorem wr_same {p : Nat} {d : Int} {vo : Value} {ps : List (List UInt8)} {b : Bool} {P : Nat → Prop} {w : World} (h : WrAt p d vo ps b P w) : WrPost p d vo ps b P w (.returned (.tuple #[])) w := ⟨rfl, Upd.refl _ _, P, h, fun _ h => .inl h⟩
theorem WrPost.step {p : Nat} {d d' : Int} {vo vo' : Value} {ps ps' : List (List UInt8)} {b b' : Bool} {P : Nat → Prop} {w w1 w2 : World} {e e' : Ending} (h : WrPost p d vo ps b P w e w1) (g : ∀ P', WrAt p d vo ps b P' w1 → WrPost p d' vo' ps' b' P' w1 e' w2) : WrPost p d' vo' ps' b' P w e' w2 := by
  obtain ⟨h1, h2, P', h3, h4⟩ := h
  obtain ⟨g1, g2, P'', g3, g4⟩ := g P' h3
  refine ⟨g1, h2.trans' g2 (fun k hk hp => ?_), P'', g3, fun k hk => ?_⟩
  · rcases h4 k hp with h | h
    · exact h
    · omega
  · rcases g4 k hk with h | h
    · exact h4 k h
    · exact .inr (by have := h2.size; omega)
set_option maxRecDepth 1000000 in
set_option maxHeartbeats 4000000 in
theorem wfail_any (p : Nat) (d : Int) (vo : Value) (ps : List (List UInt8)) (b : Bool) (P : Nat → Prop) (T : TypeId) (y : Value) (w : World) (h : Hid (WrAt p d vo ps b P w)) (hec : Hid (EC w (.iface T y) 8)) :
    Calls Try.prog 59 #[.pointer (some ⟨p, 0, none⟩), .iface T y] w (WrPost p d vo ps true P w) := by
  have HN := Lib.hid (wr_not h.out)
  obtain ⟨vp, ev, h1, h2, h3, rfl⟩ := h.out
  have hc4 : w.cell? ⟨p, 4, none⟩ = some ev := row_cell h1 (j := 4) rfl
  have hfz : w.frozen? ⟨p, 4, none⟩ = false := row_thaw h1 4
  have H1 := Lib.hid h1
  have H2 := Lib.hid h2
  have H3 := Lib.hid h3
  clear h1 h2 h3
  cases b with
  | true =>
    obtain ⟨T', y', rfl⟩ := H3.out.yes.iface
    go_enter Try.func59, Try.ntmps59
    go_wp2_with fail
    go_end0
    exact wr_same h.out
  | false =>
    obtain rfl := H3.out.no
    go_enter Try.func59, Try.ntmps59
    go_wp2_with fail
    go_end0
    have hu := Upd.set w ⟨p, 4, none⟩ (.iface T y)
    refine ⟨rfl, hu.mono (fun k _ hk => .inl hk), _, ⟨vp, .iface T y, row_set H1.out 4 _, hu.own H2.out (fun k hk e => by have e : k = p := e; have := (H2.out.lt k hk).1; omega), ?_, rfl⟩, fun k hk => .inl hk⟩
    obtain ⟨ws, he⟩ := hec.out
    exact ⟨ws, isErr_upd hu (fun k hk => HN.out k (.inl hk)) he⟩
set_option maxRecDepth 1000000 in
set_option maxHeartbeats 4000000 in
theorem wask_any (p : Nat) (d : Int) (vo : Value) (ps : List (List UInt8)) (b : Bool) (P : Nat → Prop) (g : Bool) (w : World) (h : Hid (WrAt p d vo ps b P w)) :
    Calls Try.prog 39 #[.pointer (some ⟨p, 0, none⟩), .bool g] w (WrPost p d vo ps (b || !g) P w) := by
  cases g with
  | true =>
    go_enter Try.func39, Try.ntmps39
    go_wp2_with fail
    go_end0
    have := wr_same h.out
    simpa using this
  | false =>
    go_enter Try.func39, Try.ntmps39
    go_wp2_with fail
    refine (wfail_any p d vo ps b P _ _ w h (Lib.hid ⟨[], rfl⟩)).mono ?_; intro e w1 hpost
    obtain ⟨rfl, hpost⟩ := hpost
    have HP := Lib.hid hpost
    clear hpost
    go_wp2_with fail
    go_end0
    have : (b || !false) = true := by simp
    rw [this]
    exact ⟨rfl, HP.out⟩
set_option maxRecDepth 1000000 in
set_option maxHeartbeats 4000000 in
theorem wput_any (p : Nat) (d : Int) (vo : Value) (ps : List (List UInt8)) (b : Bool) (P : Nat → Prop) (t : List UInt8) (w : World) (h : Hid (WrAt p d vo ps b P w)) (hl : ps.length ≤ 1000000) (hf : ps.flatten.length + t.length ≤ 100000000) :
    Calls Try.prog 40 #[.pointer (some ⟨p, 0, none⟩), strV t] w (WrPost p d vo (wps b ps [t]) b P w) := by
  obtain ⟨X, hX⟩ : ∃ X : ByteArray, (⟨t.toArray⟩ : ByteArray) = X := ⟨_, rfl⟩
  have hXs : X.size = t.length := by rw [← hX]; simp [ByteArray.size]
  have HX := Lib.hid hX
  have HN := Lib.hid (wr_not h.out)
  obtain ⟨vp, ev, h1, h2, h3, rfl⟩ := h.out
  have hc4 : w.cell? ⟨p, 4, none⟩ = some ev := row_cell h1 (j := 4) rfl
  have hc1 : w.cell? ⟨p, 1, none⟩ = some vp := row_cell h1 (j := 1) rfl
  have hfz : w.frozen? ⟨p, 1, none⟩ = false := row_thaw h1 1
  have H1 := Lib.hid h1
  have H2 := Lib.hid h2
  have H3 := Lib.hid h3
  have hpw := row_lt h1
  unfold strV
  rw [hX]
  clear h1 h2 h3 hX
  cases b with
  | true =>
    obtain ⟨T', y', rfl⟩ := H3.out.yes.iface
    go_enter Try.func40, Try.ntmps40
    go_wp2_with fail
    go_end0
    exact wr_same h.out
  | false =>
    obtain rfl := H3.out.no
    obtain ⟨ao, cap, rfl⟩ := own_slice H2.out
    obtain ⟨L, hL⟩ : ∃ L, ps.flatten.length = L := ⟨_, rfl⟩
    have HL := Lib.hid hL
    rw [hL] at hf
    clear hL
    go_enter Try.func40, Try.ntmps40
    go_wp2_with (at_builtin; refine wpList_app1_at (c := 1) (cs := [.string X]) rfl _ _ 74 rfl Try.elStrM (by decide) H2.out rfl (by show Value.slice (some ⟨w.heap.size, 0, none⟩) 1 1 = _; simp) rfl (by simp [Value.oneCell']) (by unfold maxLen; omega) (by omega) (by omega) ?_; intro g' cap' w2 hown2 hgrow hng; have HR2 : Hid (w2.heap[p]? = some (.cells #[.int .i64 d, .slice ao ps.length cap, .int .i64 (ps.flatten.length : Int), vo, .nilIface] 84 (0, 0))) := Lib.hid ((hgrow.block _ hpw (fun e => by have h7 := (H2.out.lt _ e.symm).1; omega)).trans H1.out); have hc1' : w2.cell? ⟨p, 1, none⟩ = some (.slice ao ps.length cap) := row_cell HR2.out (j := 1) rfl; have hfz1 : w2.frozen? ⟨p, 1, none⟩ = false := row_thaw HR2.out 1; have hc2' : w2.cell? ⟨p, 2, none⟩ = some (.int .i64 (L : Int)) := (by rw [← HL.out]; exact row_cell HR2.out (j := 2) rfl); have hfz2 : w2.frozen? ⟨p, 2, none⟩ = false := row_thaw HR2.out 2)
    go_end0
    have hgu : Upd (fun k => (Value.slice ao ps.length cap).ownBlock = some k) w w2 := Upd.of_grown hgrow
    have hu1 := Upd.set w2 ⟨p, 1, none⟩ (.slice (some ⟨g', 0, none⟩) (ps.length + 1) cap')
    have hu2 := Upd.set (w2.setCell ⟨p, 1, none⟩ (.slice (some ⟨g', 0, none⟩) (ps.length + 1) cap')) ⟨p, 2, none⟩ (.int .i64 ((L : Int) + (t.length : Int)))
    have hrow : ((w2.setCell ⟨p, 1, none⟩ (.slice (some ⟨g', 0, none⟩) (ps.length + 1) cap')).setCell ⟨p, 2, none⟩ (.int .i64 ((L : Int) + (t.length : Int)))).heap[p]? = some (.cells #[.int .i64 d, .slice (some ⟨g', 0, none⟩) (ps.length + 1) cap', .int .i64 ((L : Int) + (t.length : Int)), vo, .nilIface] 84 (0, 0)) := row_set (row_set HR2.out 1 _) 2 _
    refine ⟨rfl, ((hgu.mono fun k _ h => .inr h).trans (hu1.mono fun k _ h => .inl h)).trans (hu2.mono fun k _ h => .inl h), _, ⟨.slice (some ⟨g', 0, none⟩) (ps.length + 1) cap', .nilIface, ?_, ?_, rfl, rfl⟩, fun k hk => ?_⟩
    · have e : (((ps ++ [t]).flatten.length : Nat) : Int) = (L : Int) + (t.length : Int) := by rw [List.flatten_append, List.length_append, ← HL.out]; simp
      refine hrow.trans ?_
      show _ = some (Obj.cells #[Value.int .i64 d, _, Value.int .i64 (((ps ++ [t]).flatten.length : Nat) : Int), vo, Value.nilIface] _ (0, 0))
      rw [e]
    · have h9 := hu2.own (hu1.own hown2 (fun k hk e => by have e : k = p := e; have := (hown2.lt k hk).1; omega)) (fun k hk e => by have e : k = p := e; have := (hown2.lt k hk).1; omega)
      show World.ownsRow _ _ _ _ _ (ps ++ [t]).length ((ps ++ [t]).map strV)
      rw [List.length_append, List.map_append, List.map_cons, List.map_nil]
      unfold strV
      rw [HX.out]
      exact h9
    · rcases hk with hk | hk
      · exact .inl (.inl hk)
      · have hk' : g' = k := by simpa [Value.ownBlock] using hk
        subst hk'
        rcases hng with h | h
        · exact .inl (.inr h)
        · exact .inr h
/-- what a call on a Writer leaves, told of any Writer -/
def W8 (p : Nat) (d : Int) (vo : Value) (ps : List (List UInt8)) (b : Bool) (w0 w : World) (P0 : Nat → Prop) : Prop := Upd P0 w0 w ∧ ∃ P, WrAt p d vo ps b P w ∧ ∀ k, P k → P0 k ∨ w0.heap.size ≤ k
set_option maxRecDepth 1000000 in
set_option maxHeartbeats 4000000 in
theorem wvar_any (p : Nat) (d : Int) (vo : Value) (ps : List (List UInt8)) (b : Bool) (P : Nat → Prop) (num n : Nat) (w : World) (h : Hid (WrAt p d vo ps b P w)) (hn : n < 18446744073709551616) (h1 : 1 ≤ num) (h2 : num ≤ 536870911) (hl : ps.length ≤ 1000000) (hf : ps.flatten.length ≤ 10000000) :
    Calls Try.prog 22 #[.pointer (some ⟨p, 0, none⟩), .int .i64 (num : Int), .int .u64 (n : Int)] w (WrPost p d vo (wps b ps (wvarP num n)) b P w) := by
  by_cases h0 : n = 0
  · subst h0
    go_enter Try.func22, Try.ntmps22
    go_wp2_with fail
    go_end0
    rw [wvarP_0, wps_nil]
    exact wr_same h.out
  · have d1 : ((n : Int) != 0) = true := by rw [bne_iff_ne]; omega
    have HZ := Lib.hid h0
    have hvl := (vput_length n).2
    have htl := wtag_len (num : Int) 0
    have hwl : (wrec (num : Int) 0 (vput n)).length ≤ 20 := by unfold wrec; split <;> simp <;> omega
    clear h0
    go_enter Try.func22, Try.ntmps22
    go_wp2_with fail
    refine (wvarint_any (num : Int) n _ (by omega) (by omega) hn).mono ?_; rintro e w1 ⟨rfl, hb1⟩
    have HB1 := Lib.hid hb1
    have HW1 := Lib.hid (wr_below h.out hb1)
    clear hb1
    go_wp2_with fail
    refine (wput_any p d vo ps b P (wrec (num : Int) 0 (vput n)) _ HW1 hl (by omega)).mono ?_; intro e w2 hpost
    obtain ⟨rfl, hu, P', hw, hp⟩ := hpost
    have HU := Lib.hid hu
    have HW := Lib.hid hw
    have HP := Lib.hid hp
    clear hu hw hp
    go_wp2_with fail
    go_end0
    refine ⟨rfl, (Upd.of_new HB1.out).trans HU.out, P', ?_, fun k hk => ?_⟩
    · rw [wvarP_1 HZ.out]; exact HW.out
    · rcases HP.out k hk with h | h
      · exact .inl h
      · exact .inr (Nat.le_trans HB1.out.size h)
end Go.Proofs.Ytdokbooggbiciaa
