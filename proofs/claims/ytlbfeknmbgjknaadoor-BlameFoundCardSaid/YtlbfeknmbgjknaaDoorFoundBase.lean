/-
  errors.Unwrap over a chain of wraps; what stays while errors are looked into.
-/
import Derived.Test.YtlbfeknmbgjknaaDoorMade
import Derived.Test.YtlbfeknmbgjknaaDoorOrd
import Derived.Test.YtlbfeknmbgjknaaDoorUpd
namespace Go.Proofs.YtlbfeknmbgjknaaDoor
open Go.RowKit

theorem unwrap_wrap (b : Bool) (n : Int) (ws : List (Bool × Int)) (v r : Value) (w : World) (h : isErr w ((b, n) :: ws) v r) :
    Calls Tryd.prog 16 #[v] w fun e w' => ∃ v', e = .returned v' ∧ isErr w' ws v' r ∧ w = w' := by
  obtain ⟨a, x, rfl, ha, hh, hr⟩ := h
  have HR := Lib.hid hr
  have HH := Lib.hid hh
  have k1 := Tryd.isUnWhere
  have k2 := Tryd.unwrapWhere
  have k3 := Tryd.isUnField
  have k4 := Tryd.unwrapField
  clear hr hh
  cases b with
  | true =>
    rw [show wrapT true = 36 from rfl]
    go_enter Tryd.func16, Tryd.ntmps16
    go_wp2_with (go_at_call 55; refine (unwrap_where a n x w HH.out).mono ?_; rintro e w' ⟨rfl, rfl⟩)
    go_ret
    exact ⟨x, rfl, HR.out, rfl⟩
  | false =>
    rw [show wrapT false = 37 from rfl]
    go_enter Tryd.func16, Tryd.ntmps16
    go_wp2_with (go_at_call 57; refine (unwrap_field a n x w HH.out).mono ?_; rintro e w' ⟨rfl, rfl⟩)
    go_ret
    exact ⟨x, rfl, HR.out, rfl⟩
theorem unwrap_code (c : Int) (w : World) : Calls Tryd.prog 16 #[codeV c] w fun e w' => e = .returned .nilIface ∧ w = w' := by
  have k1 := Tryd.isUnCode
  unfold codeV
  go_enter Tryd.func16, Tryd.ntmps16
  go_wp2
  go_ret
  exact ⟨rfl, rfl⟩
/-- what stays while errors are looked into -/
structure FS (w0 : World) (ws : List (Bool × Int)) (v : Value) (c : Int) (bw : Nat) (pw : Value) (bf : Nat) (pf : Value) (aw : Nat) (nw : Int) (af : Nat) (nf : Int) (w : World) : Prop where
  err : isErr w ws v (codeV c)
  glob : Glob w
  below : Below w0.heap.size w0 w
  cw : w.cell? ⟨bw, 0, none⟩ = some pw
  cf : w.cell? ⟨bf, 0, none⟩ = some pf
  caw : aw < w.heap.size ∧ w.cell? ⟨aw, 0, none⟩ = some (.int .i64 nw) ∨ pw = .pointer none
  caf : af < w.heap.size ∧ w.cell? ⟨af, 0, none⟩ = some (.int .i64 nf) ∨ pf = .pointer none
  lt : bw < w.heap.size ∧ bf < w.heap.size
theorem FS.keep {w0 : World} {ws : List (Bool × Int)} {v : Value} {c : Int} {bw : Nat} {pw : Value} {bf : Nat} {pf : Value} {aw : Nat} {nw : Int} {af : Nat} {nf : Int} {w w' : World} (h : FS w0 ws v c bw pw bf pf aw nw af nf w) (hb : Below w.heap.size w w') : FS w0 ws v c bw pw bf pf aw nw af nf w' :=
  ⟨isErr_below hb h.err, h.glob.below hb, h.below.trans (hb.mono h.below.size), (hb.cell (p := ⟨bw, 0, none⟩) h.lt.1).trans h.cw, (hb.cell (p := ⟨bf, 0, none⟩) h.lt.2).trans h.cf,
    h.caw.imp (fun ⟨h1, h2⟩ => ⟨Nat.lt_of_lt_of_le h1 hb.size, (hb.cell (p := ⟨aw, 0, none⟩) h1).trans h2⟩) id,
    h.caf.imp (fun ⟨h1, h2⟩ => ⟨Nat.lt_of_lt_of_le h1 hb.size, (hb.cell (p := ⟨af, 0, none⟩) h1).trans h2⟩) id, Nat.lt_of_lt_of_le h.lt.1 hb.size, Nat.lt_of_lt_of_le h.lt.2 hb.size⟩
theorem fs_nums {w0 : World} {ws : List (Bool × Int)} {v : Value} {c : Int} {bw : Nat} {pw : Value} {bf : Nat} {pf : Value} {aw : Nat} {nw : Int} {af : Nat} {nf : Int} {w : World} (hl : ws.length ≤ 1000) (h : FS w0 ws v c bw pw bf pf aw nw af nf w) :
    Calls Tryd.prog 12 #[v] w fun e w' => ∃ ao cap, e = .returned (.slice ao (fieldsOf ws).length cap) ∧ w'.ownsRow (w.heap.size + 1) 3 1 (.slice ao (fieldsOf ws).length cap) (fieldsOf ws).length (ints (fieldsOf ws)) ∧ FS w0 ws v c bw pw bf pf aw nw af nf w' :=
  (nums_any ws v (codeV c) w h.err (code_root c) h.glob hl).mono fun e w' ⟨u, h1, h2, h3⟩ => by
    obtain ⟨ao, cap, rfl⟩ := own_slice h2
    exact ⟨ao, cap, h1, h2, h.keep h3⟩
theorem fs_drew {w0 : World} {ws : List (Bool × Int)} {v : Value} {c : Int} {bw : Nat} {pw : Value} {bf : Nat} {pf : Value} {aw : Nat} {nw : Int} {af : Nat} {nf : Int} {w : World} (h : FS w0 ws v c bw pw bf pf aw nw af nf w) : FS w0 ws v c bw pw bf pf aw nw af nf w.drew :=
  h.keep (Below.refl _ _).drew
theorem fields_none {ws : List (Bool × Int)} (h : firstOf false ws = none) : fieldsOf ws = [] := by
  rcases firstOf_fields (ws := ws) with ⟨_, h2⟩ | ⟨n, rest, h1, _⟩
  · exact h2
  · rw [h] at h1; cases h1
theorem fields_some {ws rest : List (Bool × Int)} {n : Int} (h : firstOf false ws = some (n, rest)) : fieldsOf ws = n :: fieldsOf rest := by
  rcases firstOf_fields (ws := ws) with ⟨h1, _⟩ | ⟨m, r, h1, h2, _⟩
  · rw [h] at h1; cases h1
  · rw [h] at h1
    simp only [Option.some.injEq, Prod.mk.injEq] at h1
    obtain ⟨rfl, rfl⟩ := h1
    exact h2
theorem fs_two {w0 w2 w3 w4 : World} {ws : List (Bool × Int)} {v : Value} {c : Int} {pw pf : Value} {aw : Nat} {nw : Int} {af : Nat} {nf : Int} (he : isErr w2 ws v (codeV c)) (hg : Glob w2) (hb : Below w0.heap.size w0 w2)
    (h1 : OneUpd ((w2.alloc (.cells #[.pointer none] 36)).alloc (.cells #[.pointer none] 37)) w3 w2.heap.size 36 pw)
    (h2 : OneUpd w3 w4 (w2.heap.size + 1) 37 pf)
    (hx : (aw < w2.heap.size ∧ w2.cell? ⟨aw, 0, none⟩ = some (.int .i64 nw)) ∨ pw = .pointer none)
    (hy : (af < w2.heap.size ∧ w2.cell? ⟨af, 0, none⟩ = some (.int .i64 nf)) ∨ pf = .pointer none) : FS w0 ws v c w2.heap.size pw (w2.heap.size + 1) pf aw nw af nf w4 := by
  have hs3 := h1.size
  have hs4 := h2.size
  simp at hs3
  have hB3 : Below w2.heap.size w2 w3 := below_oneUpd (((Below.refl _ _).alloc (Nat.le_refl _) _).alloc (by simp) _) h1 (Nat.le_refl _) (by simp; omega)
  have hB : Below w2.heap.size w2 w4 := below_oneUpd hB3 h2 (by omega) (by omega)
  refine ⟨isErr_below hB he, hg.below hB, hb.trans (hB.mono hb.size), ?_, ?_, ?_, ?_, by omega, by omega⟩
  · rw [cell_of_row w4 _ 0 _ _ _ ((h2.block _ (by omega) (by omega)).trans h1.cell)]; rfl
  · rw [cell_of_row w4 _ 0 _ _ _ h2.cell]; rfl
  · exact hx.imp (fun ⟨a, b⟩ => ⟨by omega, (hB.cell (p := ⟨aw, 0, none⟩) a).trans b⟩) id
  · exact hy.imp (fun ⟨a, b⟩ => ⟨by omega, (hB.cell (p := ⟨af, 0, none⟩) a).trans b⟩) id
end Go.Proofs.YtlbfeknmbgjknaaDoor
