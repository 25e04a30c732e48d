/-
  hyglaw10.ScopeWrites: for every input the law returns true, and the input stays as it was.
-/
import Derived.Test.YtbdbmkmebeemoaaGreatDoorAlikeB
import Derived.Test.YtbdbmkmebeemoaaGreatDoorMsgRead
import Derived.Test.YtbdbmkmebeemoaaGreatDoorMsgMath
import Derived.Test.YtbdbmkmebeemoaaGreatDoorVoutLe
import Derived.Test.YtbdbmkmebeemoaaGreatDoorValBack
import Derived.Test.YtbdbmkmebeemoaaGreatDoorValRoom
import Derived.Deep.Strs
import Derived.Deep.SlicePairs
import Derived.Test.YtbdbmkmebeemoaaGreatDoorVal
import Derived.Test.YtbdbmkmebeemoaaGreatDoorAdd
import Derived.Test.YtbdbmkmebeemoaaGreatDoorMsgUn
import Derived.Test.YtbdbmkmebeemoaaGreatDoorIn
import Derived.Test.YtbdbmkmebeemoaaGreatDoorRefMsg
import Derived.Test.YtbdbmkmebeemoaaGreatDoorMsgOpen
import Derived.Test.YtbdbmkmebeemoaaGreatDoorValMar
import Derived.Test.YtbdbmkmebeemoaaGreatDoorRefOut
import Derived.Test.YtbdbmkmebeemoaaGreatDoorDoor
import Derived.Test.YtbdbmkmebeemoaaGreatDoorRow
namespace Go.Proofs.YtbdbmkmebeemoaaGreatDoor
open Go.RowKit

def XK (w : World) (g : Nat) (ca ck : List Value) : Prop := w.heap[g]? = some (.cells ca.toArray 76 (0, 0)) ∧ w.heap[g + 1]? = some (.cells ck.toArray 78 (0, 0))
theorem XK.below {w w' : World} {g : Nat} {ca cb : List Value} (h : XK w g ca cb) (hb : Below w.heap.size w w') : XK w' g ca cb := ⟨(hb.block _ (row_lt h.1)).trans h.1, (hb.block _ (row_lt h.2)).trans h.2⟩
theorem XK.a {w : World} {g : Nat} {c0 c1 c2 c3 c4 c5 c6 c7 : Value} {ck : List Value} (h : XK w g [c0, c1, c2, c3, c4, c5, c6, c7] ck) : w.cell? ⟨g, 0, none⟩ = some c0 ∧ w.cell? ⟨g, 1, none⟩ = some c1 ∧ w.cell? ⟨g, 2, none⟩ = some c2 ∧ w.cell? ⟨g, 3, none⟩ = some c3 ∧ w.cell? ⟨g, 4, none⟩ = some c4 ∧ w.cell? ⟨g, 5, none⟩ = some c5 ∧ w.cell? ⟨g, 6, none⟩ = some c6 ∧ w.cell? ⟨g, 7, none⟩ = some c7 := ⟨row_cell h.1 (j := 0) rfl, row_cell h.1 (j := 1) rfl, row_cell h.1 (j := 2) rfl, row_cell h.1 (j := 3) rfl, row_cell h.1 (j := 4) rfl, row_cell h.1 (j := 5) rfl, row_cell h.1 (j := 6) rfl, row_cell h.1 (j := 7) rfl⟩
theorem XK.k {w : World} {g : Nat} {ca : List Value} {c0 c1 c2 c3 c4 c5 c6 c7 c8 c9 c10 : Value} (h : XK w g ca [c0, c1, c2, c3, c4, c5, c6, c7, c8, c9, c10]) : w.cell? ⟨g + 1, 0, none⟩ = some c0 ∧ w.cell? ⟨g + 1, 1, none⟩ = some c1 ∧ w.cell? ⟨g + 1, 2, none⟩ = some c2 ∧ w.cell? ⟨g + 1, 3, none⟩ = some c3 ∧ w.cell? ⟨g + 1, 4, none⟩ = some c4 ∧ w.cell? ⟨g + 1, 5, none⟩ = some c5 ∧ w.cell? ⟨g + 1, 6, none⟩ = some c6 ∧ w.cell? ⟨g + 1, 7, none⟩ = some c7 ∧ w.cell? ⟨g + 1, 8, none⟩ = some c8 ∧ w.cell? ⟨g + 1, 9, none⟩ = some c9 ∧ w.cell? ⟨g + 1, 10, none⟩ = some c10 := ⟨row_cell h.2 (j := 0) rfl, row_cell h.2 (j := 1) rfl, row_cell h.2 (j := 2) rfl, row_cell h.2 (j := 3) rfl, row_cell h.2 (j := 4) rfl, row_cell h.2 (j := 5) rfl, row_cell h.2 (j := 6) rfl, row_cell h.2 (j := 7) rfl, row_cell h.2 (j := 8) rfl, row_cell h.2 (j := 9) rfl, row_cell h.2 (j := 10) rfl⟩
end Go.Proofs.YtbdbmkmebeemoaaGreatDoor
namespace Go.Proofs.YtbdbmkmebeemoaaGreatDoor
open Go.RowKit

structure Fx (A : World → Prop) (w : World) : Prop where
  is : A w
  st : ∀ w1 w2, A w1 → Below w1.heap.size w1 w2 → A w2
theorem Fx.nil (w : World) : Fx (fun _ => True) w := ⟨trivial, fun _ _ _ _ => trivial⟩
theorem Fx.below {A : World → Prop} {w w' : World} (h : Fx A w) (hb : Below w.heap.size w w') : Fx A w' := ⟨h.st _ _ h.is hb, h.st⟩
theorem Fx.add {A B : World → Prop} {w : World} (h : Fx A w) (hb : B w) (hs : ∀ w1 w2, B w1 → Below w1.heap.size w1 w2 → B w2) : Fx (fun w => B w ∧ A w) w := ⟨⟨hb, h.is⟩, fun _ _ h1 h2 => ⟨hs _ _ h1.1 h2, h.st _ _ h1.2 h2⟩⟩
theorem Fx.base {A : World → Prop} {w w0 : World} (h : Fx A w) (hb : Below w0.heap.size w0 w) : Fx (fun w => Below w0.heap.size w0 w ∧ A w) w := h.add (B := fun w => Below w0.heap.size w0 w) hb fun _ _ h1 h2 => below_step h1 h2
theorem Fx.row {A : World → Prop} {w : World} {g : Nat} {c : Array Value} {T : TypeId} (h : Fx A w) (hb : w.heap[g]? = some (.cells c T (0, 0))) : Fx (fun w => w.heap[g]? = some (.cells c T (0, 0)) ∧ A w) w := h.add (B := fun w => w.heap[g]? = some (.cells c T (0, 0))) hb fun _ _ h1 h2 => (h2.block _ (row_lt h1)).trans h1
theorem Fx.krels {A : World → Prop} {w : World} {P : Nat → Prop} {l : List KV} {lo : Option Addr} {i : Nat} (h : Fx A w) (hb : KRels w P l lo i) : Fx (fun w => KRels w P l lo i ∧ A w) w := h.add (B := fun w => KRels w P l lo i) hb fun _ _ h1 h2 => h1.below h2
theorem Fx.ec {A : World → Prop} {w : World} {v : Value} {c : Nat} (h : Fx A w) (hb : EC w v c) : Fx (fun w => EC w v c ∧ A w) w := h.add (B := fun w => EC w v c) hb fun _ _ h1 h2 => h1.below h2
theorem row11 {w : World} {g : Nat} {c0 c1 c2 c3 c4 c5 c6 c7 c8 c9 c10 : Value} {T : TypeId} {fr : Nat × Nat} (h : w.heap[g]? = some (.cells #[c0, c1, c2, c3, c4, c5, c6, c7, c8, c9, c10] T fr)) : w.cell? ⟨g, 0, none⟩ = some c0 ∧ w.cell? ⟨g, 1, none⟩ = some c1 ∧ w.cell? ⟨g, 2, none⟩ = some c2 ∧ w.cell? ⟨g, 3, none⟩ = some c3 ∧ w.cell? ⟨g, 4, none⟩ = some c4 ∧ w.cell? ⟨g, 5, none⟩ = some c5 ∧ w.cell? ⟨g, 6, none⟩ = some c6 ∧ w.cell? ⟨g, 7, none⟩ = some c7 ∧ w.cell? ⟨g, 8, none⟩ = some c8 ∧ w.cell? ⟨g, 9, none⟩ = some c9 ∧ w.cell? ⟨g, 10, none⟩ = some c10 := ⟨row_cell h (j := 0) rfl, row_cell h (j := 1) rfl, row_cell h (j := 2) rfl, row_cell h (j := 3) rfl, row_cell h (j := 4) rfl, row_cell h (j := 5) rfl, row_cell h (j := 6) rfl, row_cell h (j := 7) rfl, row_cell h (j := 8) rfl, row_cell h (j := 9) rfl, row_cell h (j := 10) rfl⟩
/-- a block made anew -/
theorem new_row (w : World) (c : Array Value) (T : TypeId) : (w.alloc (.cells c T)).heap[w.heap.size]? = some (.cells c T (0, 0)) := heap_alloc_new _ _
/-- what a region loads: whole structs -/
def R2 (g1 : Nat) (c1 : Array Value) (T1 : TypeId) (g2 : Nat) (c2 : Array Value) (T2 : TypeId) (w : World) : Prop := w.heap[g1]? = some (.cells c1 T1 (0, 0)) ∧ w.heap[g2]? = some (.cells c2 T2 (0, 0))
theorem R2.below {g1 g2 : Nat} {c1 c2 : Array Value} {T1 T2 : TypeId} {w w' : World} (h : R2 g1 c1 T1 g2 c2 T2 w) (hb : Below w.heap.size w w') : R2 g1 c1 T1 g2 c2 T2 w' := ⟨(hb.block _ (row_lt h.1)).trans h.1, (hb.block _ (row_lt h.2)).trans h.2⟩
end Go.Proofs.YtbdbmkmebeemoaaGreatDoor

namespace Go.Proofs.YtbdbmkmebeemoaaGreatDoor

/-- a field of a message: what it takes, how it is read at a depth, written, what may be; inv: what holds after so many bytes -/
structure Fld where
  σ : Type
  z : σ
  tk : Rec → Bool
  step : Int → σ → Rec → Except Nat σ
  out : σ → List Rec
  may : Int → σ → Bool
  fit : σ → Prop
  wt : σ → Nat
  w0 : Nat
  inv : Int → σ → Nat → Prop
/-- reading a field's records -/
def Fld.rd (F : Fld) (d : Int) (s : F.σ) (rs : List Rec) : Except Nat F.σ := mfold F.tk (F.step d) s rs
structure Fld.Ok (F : Fld) : Prop where
  recs : ∀ s, F.fit s → F.wt s ≤ 1000000 → ∀ r ∈ F.out s, F.tk r = true ∧ ∀ d, IsRec d r
  back : ∀ s d, F.fit s → F.wt s ≤ 1000000 → 0 ≤ d → F.may d s = true → F.rd d F.z (F.out s) = .ok s
  less : ∀ s d d', F.fit s → F.wt s ≤ 1000000 → F.may d s = true → d' ≤ d → F.may d' s = false → ∃ c, F.rd d' F.z (F.out s) = .error c
  start : ∀ d, F.inv d F.z 0
  go : ∀ d s t r s', F.inv d s t → IsRec d r → F.tk r = true → t + r.raw.length ≤ 1000000 → F.step d s r = .ok s' → F.inv d s' (t + r.raw.length)
  ends : ∀ d s t, 0 ≤ d → F.inv d s t → t ≤ 1000000 → F.may d s = true ∧ F.fit s ∧ F.wt s ≤ F.w0 + 51 * t
/-- two fields beside each other -/
def Fld.and (A B : Fld) : Fld where
  σ := A.σ × B.σ
  z := (A.z, B.z)
  tk r := A.tk r || B.tk r
  step d s r := if A.tk r then (match A.step d s.1 r with
    | .error c => .error c
    | .ok a => .ok (a, s.2)) else (match B.step d s.2 r with
    | .error c => .error c
    | .ok b => .ok (s.1, b))
  out s := A.out s.1 ++ B.out s.2
  may d s := A.may d s.1 && B.may d s.2
  fit s := A.fit s.1 ∧ B.fit s.2
  wt s := A.wt s.1 + B.wt s.2
  w0 := A.w0 + B.w0
  inv d s t := ∃ t1 t2, t1 + t2 = t ∧ A.inv d s.1 t1 ∧ B.inv d s.2 t2
/-- they share no record -/
def Fld.Apart (A B : Fld) : Prop := ∀ r, ¬ (A.tk r = true ∧ B.tk r = true)
theorem mfold_filter {σ : Type} (tk : Rec → Bool) (step : σ → Rec → Except Nat σ) : ∀ (rs : List Rec) (s : σ), mfold tk step s (rs.filter tk) = mfold tk step s rs
  | [], _ => rfl
  | r :: rs, s => by
    rw [List.filter_cons]
    by_cases h : tk r = true
    · rw [if_pos h, mfold, mfold, if_pos h, if_pos h]
      cases step s r with
      | error c => rfl
      | ok s' => exact mfold_filter tk step rs s'
    · rw [if_neg h, mfold, if_neg h]
      exact mfold_filter tk step rs s
theorem Fld.and_1ok {A B : Fld} {d : Int} {a a' : A.σ} {b : B.σ} {r : Rec} (h : A.tk r = true) (e : A.step d a r = .ok a') : (A.and B).step d (a, b) r = .ok (a', b) := by simp only [Fld.and, h, e, ↓reduceIte]
theorem Fld.and_1no {A B : Fld} {d : Int} {a : A.σ} {b : B.σ} {r : Rec} {c : Nat} (h : A.tk r = true) (e : A.step d a r = .error c) : (A.and B).step d (a, b) r = .error c := by simp only [Fld.and, h, e, ↓reduceIte]
theorem Fld.and_2ok {A B : Fld} {d : Int} {a : A.σ} {b b' : B.σ} {r : Rec} (h : A.tk r = false) (e : B.step d b r = .ok b') : (A.and B).step d (a, b) r = .ok (a, b') := by simp only [Fld.and, h, e, Bool.false_eq_true, ↓reduceIte]
theorem Fld.and_2no {A B : Fld} {d : Int} {a : A.σ} {b : B.σ} {r : Rec} {c : Nat} (h : A.tk r = false) (e : B.step d b r = .error c) : (A.and B).step d (a, b) r = .error c := by simp only [Fld.and, h, e, Bool.false_eq_true, ↓reduceIte]
/-- reading both is reading each -/
theorem Fld.and_rd {A B : Fld} (hap : A.Apart B) (d : Int) : ∀ (rs : List Rec) (a : A.σ) (b : B.σ), match A.rd d a rs, B.rd d b rs with
    | .ok a', .ok b' => (A.and B).rd d (a, b) rs = .ok (a', b')
    | _, _ => ∃ c, (A.and B).rd d (a, b) rs = .error c
  | [], a, b => rfl
  | r :: rs, a, b => by
    show match mfold A.tk (A.step d) a (r :: rs), mfold B.tk (B.step d) b (r :: rs) with
      | .ok a', .ok b' => mfold (A.and B).tk ((A.and B).step d) (a, b) (r :: rs) = .ok (a', b')
      | _, _ => ∃ c, mfold (A.and B).tk ((A.and B).step d) (a, b) (r :: rs) = .error c
    simp only [mfold]
    cases ha : A.tk r with
    | true =>
      have hb : B.tk r = false := by cases h : B.tk r; rfl; exact absurd ⟨ha, h⟩ (hap r)
      have e1 : (A.and B).tk r = true := by show (A.tk r || B.tk r) = true; rw [ha]; rfl
      rw [hb, e1, if_pos rfl, if_pos rfl, if_neg (by simp)]
      have e2 : (A.and B).step d (a, b) r = match A.step d a r with
        | .error c => .error c
        | .ok a' => .ok (a', b) := by simp only [Fld.and, ha, ↓reduceIte]
      rw [e2]
      cases A.step d a r with
      | error c => dsimp only; exact ⟨c, rfl⟩
      | ok a' => exact Fld.and_rd hap d rs a' b
    | false =>
      rw [if_neg (by simp)]
      cases hb : B.tk r with
      | true =>
        have e1 : (A.and B).tk r = true := by show (A.tk r || B.tk r) = true; rw [ha, hb]; rfl
        rw [e1, if_pos rfl, if_pos rfl]
        have e2 : (A.and B).step d (a, b) r = match B.step d b r with
          | .error c => .error c
          | .ok b' => .ok (a, b') := by simp only [Fld.and, ha, Bool.false_eq_true, ↓reduceIte]
        rw [e2]
        cases B.step d b r with
        | error c =>
          dsimp only
          have := Fld.and_rd hap d rs a b
          cases mfold A.tk (A.step d) a rs <;> exact ⟨c, rfl⟩
        | ok b' => exact Fld.and_rd hap d rs a b'
      | false =>
        have e1 : (A.and B).tk r = false := by show (A.tk r || B.tk r) = false; rw [ha, hb]; rfl
        rw [e1, if_neg (by simp), if_neg (by simp)]
        exact Fld.and_rd hap d rs a b
theorem Fld.and_ok {A B : Fld} (hap : A.Apart B) {d : Int} {rs : List Rec} {a : A.σ} {b : B.σ} {a' : A.σ} {b' : B.σ} (ha : A.rd d a rs = .ok a') (hb : B.rd d b rs = .ok b') : (A.and B).rd d (a, b) rs = .ok (a', b') := by
  have := Fld.and_rd hap d rs a b
  rw [ha, hb] at this
  exact this
theorem Fld.and_no1 {A B : Fld} (hap : A.Apart B) {d : Int} {rs : List Rec} {a : A.σ} {b : B.σ} (h : ∃ c, A.rd d a rs = .error c) : ∃ c, (A.and B).rd d (a, b) rs = .error c := by
  obtain ⟨c, h⟩ := h
  have := Fld.and_rd hap d rs a b
  rw [h] at this
  exact this
theorem Fld.and_no2 {A B : Fld} (hap : A.Apart B) {d : Int} {rs : List Rec} {a : A.σ} {b : B.σ} (h : ∃ c, B.rd d b rs = .error c) : ∃ c, (A.and B).rd d (a, b) rs = .error c := by
  obtain ⟨c, h⟩ := h
  have := Fld.and_rd hap d rs a b
  rw [h] at this
  cases hA : A.rd d a rs with
  | error c2 => rw [hA] at this; exact this
  | ok x => rw [hA] at this; exact this
theorem filter_self {p : Rec → Bool} {l : List Rec} (h : ∀ r ∈ l, p r = true) : l.filter p = l := List.filter_eq_self.2 h
theorem filter_none {p : Rec → Bool} {l : List Rec} (h : ∀ r ∈ l, p r = false) : l.filter p = [] := List.filter_eq_nil_iff.2 fun r hr => by rw [h r hr]; simp
/-- what another field's records are to a field: nothing -/
theorem Fld.rd_other {A : Fld} {d : Int} {s : A.σ} {rs ts : List Rec} (h : ts.filter A.tk = rs) : A.rd d s ts = A.rd d s rs := by
  unfold Fld.rd
  rw [← h, mfold_filter]
theorem Fld.Ok.and {A B : Fld} (hA : A.Ok) (hB : B.Ok) (hap : A.Apart B) : (A.and B).Ok where
  recs := fun s hf hw r hr => by
    rcases List.mem_append.1 hr with h | h
    · have := hA.recs s.1 hf.1 (by have : A.wt s.1 + B.wt s.2 ≤ 1000000 := hw; omega) r h
      exact ⟨by show (A.tk r || B.tk r) = true; rw [this.1]; rfl, this.2⟩
    · have := hB.recs s.2 hf.2 (by have : A.wt s.1 + B.wt s.2 ≤ 1000000 := hw; omega) r h
      exact ⟨by show (A.tk r || B.tk r) = true; rw [this.1, Bool.or_true], this.2⟩
  back := fun s d hf hw hd hm => by
    have hw : A.wt s.1 + B.wt s.2 ≤ 1000000 := hw
    have hm : (A.may d s.1 && B.may d s.2) = true := hm
    rw [Bool.and_eq_true] at hm
    have ra := hA.recs s.1 hf.1 (by omega)
    have rb := hB.recs s.2 hf.2 (by omega)
    have fa : (A.out s.1 ++ B.out s.2).filter A.tk = A.out s.1 := by
      rw [List.filter_append, filter_self fun r hr => (ra r hr).1, filter_none fun r hr => ?_, List.append_nil]
      cases h : A.tk r
      · rfl
      · exact absurd ⟨h, (rb r hr).1⟩ (hap r)
    have fb : (A.out s.1 ++ B.out s.2).filter B.tk = B.out s.2 := by
      rw [List.filter_append, filter_none fun r hr => ?_, filter_self fun r hr => (rb r hr).1, List.nil_append]
      cases h : B.tk r
      · rfl
      · exact absurd ⟨(ra r hr).1, h⟩ (hap r)
    exact Fld.and_ok hap ((Fld.rd_other fa).trans (hA.back s.1 d hf.1 (by omega) hd hm.1)) ((Fld.rd_other fb).trans (hB.back s.2 d hf.2 (by omega) hd hm.2))
  less := fun s d d' hf hw hm hle hn => by
    have hw : A.wt s.1 + B.wt s.2 ≤ 1000000 := hw
    have hm : (A.may d s.1 && B.may d s.2) = true := hm
    have hn : (A.may d' s.1 && B.may d' s.2) = false := hn
    rw [Bool.and_eq_true] at hm
    have ra := hA.recs s.1 hf.1 (by omega)
    have rb := hB.recs s.2 hf.2 (by omega)
    have fa : (A.out s.1 ++ B.out s.2).filter A.tk = A.out s.1 := by
      rw [List.filter_append, filter_self fun r hr => (ra r hr).1, filter_none fun r hr => ?_, List.append_nil]
      cases h : A.tk r
      · rfl
      · exact absurd ⟨h, (rb r hr).1⟩ (hap r)
    have fb : (A.out s.1 ++ B.out s.2).filter B.tk = B.out s.2 := by
      rw [List.filter_append, filter_none fun r hr => ?_, filter_self fun r hr => (rb r hr).1, List.nil_append]
      cases h : B.tk r
      · rfl
      · exact absurd ⟨(ra r hr).1, h⟩ (hap r)
    cases h1 : A.may d' s.1 with
    | false =>
      obtain ⟨c, hc⟩ := hA.less s.1 d d' hf.1 (by omega) hm.1 hle h1
      exact Fld.and_no1 hap ⟨c, (Fld.rd_other fa).trans hc⟩
    | true =>
      rw [h1, Bool.true_and] at hn
      obtain ⟨c, hc⟩ := hB.less s.2 d d' hf.2 (by omega) hm.2 hle hn
      exact Fld.and_no2 hap ⟨c, (Fld.rd_other fb).trans hc⟩
  start := fun d => ⟨0, 0, rfl, hA.start d, hB.start d⟩
  go := fun d s t r s' hi hr hk ht hs => by
    obtain ⟨t1, t2, rfl, i1, i2⟩ := hi
    have hs : (if A.tk r then (match A.step d s.1 r with
      | .error c => .error c
      | .ok a => .ok (a, s.2)) else (match B.step d s.2 r with
      | .error c => .error c
      | .ok b => .ok (s.1, b))) = Except.ok s' := hs
    have hk : (A.tk r || B.tk r) = true := hk
    split at hs
    · rename_i ha
      split at hs
      · cases hs
      · rename_i a hst
        obtain rfl := Except.ok.inj hs
        exact ⟨t1 + r.raw.length, t2, by omega, hA.go d s.1 t1 r a i1 hr ha (by omega) hst, i2⟩
    · rename_i ha
      split at hs
      · cases hs
      · rename_i b hst
        obtain rfl := Except.ok.inj hs
        have hb : B.tk r = true := by
          cases h : A.tk r
          · rw [h, Bool.false_or] at hk; exact hk
          · exact absurd h ha
        exact ⟨t1, t2 + r.raw.length, by omega, i1, hB.go d s.2 t2 r b i2 hr hb (by omega) hst⟩
  ends := fun d s t hd hi ht => by
    obtain ⟨t1, t2, rfl, i1, i2⟩ := hi
    obtain ⟨a1, a2, a3⟩ := hA.ends d s.1 t1 hd i1 (by omega)
    obtain ⟨b1, b2, b3⟩ := hB.ends d s.2 t2 hd i2 (by omega)
    refine ⟨?_, ⟨a2, b2⟩, ?_⟩
    · show (A.may d s.1 && B.may d s.2) = true
      rw [a1, b1]; rfl
    · show A.wt s.1 + B.wt s.2 ≤ A.w0 + B.w0 + 51 * (t1 + t2)
      omega
/-- a message: its records may stand in another order than its fields: what each field takes of them is what it writes -/
theorem Fld.msg_back {F : Fld} (hF : F.Ok) {rs : List Rec} {s : F.σ} {u : List UInt8} {d : Int} (hf : F.fit s) (hw : F.wt s ≤ 1000000) (hd : 0 ≤ d) (hrs : ∀ r ∈ rs, F.tk r = true ∧ ∀ d, IsRec d r) (hrd : ∀ d', F.rd d' F.z rs = F.rd d' F.z (F.out s)) (e : Int) (hm : F.may e s = true) (he : 0 ≤ e) (hu : munkOk F.tk u d = true) :
    mread F.tk (F.step e) F.z (rs.flatMap Rec.raw ++ u) d = .ok (s, u) :=
  mread_put_ok hd (fun r hr => (hrs r hr).2) ((hrd e).trans (hF.back s e hf hw he hm)) (by rw [List.all_eq_true]; exact fun r hr => (hrs r hr).1) hu
end Go.Proofs.YtbdbmkmebeemoaaGreatDoor

namespace Go.Proofs.YtbdbmkmebeemoaaGreatDoor
open Go.RowKit

theorem vgl_inv : ∀ (f k m : Nat) (l : List UInt8) {v e : Nat}, vgetGo (f + 1) k m l = .ok (v, e) → ∃ n j, e = k + j ∧ v = m + n * 128 ^ k ∧ (vputF f n).length ≤ j
  | f, k, m, [], v, e, h => by simp [vgetGo] at h
  | 0, k, m, c :: r, v, e, h => by
    simp only [vgetGo] at h
    split at h
    · simp at h
    · split at h
      · simp at h
        obtain ⟨rfl, rfl⟩ := h
        exact ⟨c.toNat, 1, rfl, rfl, by simp [vputF]⟩
      · simp at h
  | f + 1, k, m, c :: r, v, e, h => by
    rw [vgetGo, if_neg (by omega)] at h
    split at h
    · rename_i hc
      simp at h
      obtain ⟨rfl, rfl⟩ := h
      exact ⟨c.toNat, 1, rfl, rfl, by rw [vputF, if_pos hc]; simp⟩
    · rename_i hc
      obtain ⟨n, j, rfl, rfl, h4⟩ := vgl_inv f (k + 1) _ r h
      have hb := c.toNat_lt
      refine ⟨c.toNat - 128 + 128 * n, j + 1, by omega, ?_, ?_⟩
      · rw [Nat.pow_succ, Nat.add_mul, Nat.add_assoc]
        congr 2
        rw [Nat.mul_comm (128 ^ k), ← Nat.mul_assoc, Nat.mul_comm n]
      · rw [vputF]
        split
        · simp
        · rw [show (c.toNat - 128 + 128 * n) / 128 = n by omega]
          simp
          omega
theorem wv_min {l : List UInt8} {n j : Nat} (h : wv l = .ok (n, j)) : (vput n).length ≤ j := by
  obtain ⟨m, i, rfl, rfl, h3⟩ := vgl_inv 9 0 0 l h
  show (vputF 9 _).length ≤ _
  rw [show 0 + m * 128 ^ 0 = m by simp]
  omega
theorem vputF_lt : ∀ (f n k : Nat), n < 128 ^ (k + 1) → (vputF f n).length ≤ k + 1
  | 0, n, k, _ => by simp [vputF]
  | f + 1, n, k, h => by
    rw [vputF]
    split
    · simp
    · rename_i hn
      match k, h with
      | 0, h => omega
      | k + 1, h =>
        have := vputF_lt f (n / 128) k (by rw [Nat.pow_succ] at h; omega)
        simp
        omega
theorem lt_vputF : ∀ (f n : Nat), (vputF f n).length ≤ f → n < 128 ^ (vputF f n).length
  | 0, n, h => by simp [vputF] at h
  | f + 1, n, h => by
    rw [vputF] at h ⊢
    split
    · rename_i hn; simpa using hn
    · rename_i hn
      rw [if_neg hn] at h
      have := lt_vputF f (n / 128) (by simpa using h)
      rw [List.length_cons, Nat.pow_succ]
      omega
theorem vl_lt {n : Nat} (h : n < 9223372036854775808) : n < 128 ^ (vput n).length := by
  refine lt_vputF 9 n ?_
  have := vputF_lt 9 n 8 (by omega)
  exact this
theorem vl_mono {a b : Nat} (h : a ≤ b) (hb : b < 9223372036854775808) : (vput a).length ≤ (vput b).length := by
  have h1 := vl_lt hb
  have h2 := (vput_length b).1
  obtain ⟨k, hk⟩ : ∃ k, (vput b).length = k + 1 := ⟨_, (Nat.succ_pred_eq_of_pos h2).symm⟩
  rw [hk] at h1 ⊢
  exact vputF_lt 9 a k (Nat.lt_of_le_of_lt h h1)
theorem vl_add {a b : Nat} (h : a + b < 9223372036854775808) : (vput (a + b)).length ≤ (vput a).length + (vput b).length := by
  have h1 := vl_lt (n := a) (by omega)
  have h2 := vl_lt (n := b) (by omega)
  have h3 := (vput_length a).1
  have h4 := (vput_length b).1
  obtain ⟨p, hp⟩ : ∃ k, (vput a).length = k + 1 := ⟨_, (Nat.succ_pred_eq_of_pos h3).symm⟩
  obtain ⟨q, hq⟩ : ∃ k, (vput b).length = k + 1 := ⟨_, (Nat.succ_pred_eq_of_pos h4).symm⟩
  rw [hp] at h1 ⊢
  rw [hq] at h2 ⊢
  rw [show p + 1 + (q + 1) = (p + q + 1) + 1 by omega]
  refine vputF_lt 9 _ _ ?_
  have h5 : 128 ^ (p + 1) * 128 ^ (q + 1) = 128 ^ (p + q + 1 + 1) := by rw [← Nat.pow_add]; congr 1; omega
  rw [← h5]
  have h6 : 2 ≤ 128 ^ (p + 1) := by rw [Nat.pow_succ]; have : 0 < 128 ^ p := Nat.pow_pos (by decide); omega
  have h7 : 2 ≤ 128 ^ (q + 1) := by rw [Nat.pow_succ]; have : 0 < 128 ^ q := Nat.pow_pos (by decide); omega
  generalize 128 ^ (p + 1) = A at *
  generalize 128 ^ (q + 1) = B at *
  have h8 : A * B = (A - 2) * (B - 2) + 2 * (A - 2) + 2 * (B - 2) + 4 := by
    obtain ⟨A, rfl⟩ : ∃ x, A = x + 2 := ⟨A - 2, by omega⟩
    obtain ⟨B, rfl⟩ : ∃ x, B = x + 2 := ⟨B - 2, by omega⟩
    simp only [Nat.add_sub_cancel, Nat.add_mul, Nat.mul_add]
    omega
  rw [h8]
  generalize (A - 2) * (B - 2) = Z at *
  omega
/-- how many bytes a record has at least -/
theorem rec_big {d : Int} {r : Rec} (h : IsRec d r) : (r.ty = 2 → r.n = 0 ∧ 1 + (vput r.s.length).length + r.s.length ≤ r.raw.length) ∧ (r.ty = 0 → r.n < 2 ^ 64 ∧ 1 + (vput r.n).length ≤ r.raw.length) ∧ (r.ty = 1 → r.n < 2 ^ 64 ∧ 9 ≤ r.raw.length) := by
  have h1 := h []
  rw [List.append_nil] at h1
  unfold wnx at h1
  cases hh : whd r.raw with
  | error c => rw [hh] at h1; cases h1
  | ok x =>
    obtain ⟨num, ty, j⟩ := x
    have hb := whd_bounds hh
    rw [hh] at h1
    dsimp only at h1
    split at h1
    · cases h1
    · split at h1
      · cases hg : wgroup (r.raw.drop j) [num] d with
        | error c => rw [hg] at h1; cases h1
        | ok k =>
          rw [hg] at h1
          simp only [Except.ok.injEq, Prod.mk.injEq] at h1
          have e : r.ty = 3 := by rw [← h1.1]
          rw [e]
          exact ⟨fun h => by omega, fun h => by omega, fun h => by omega⟩
      · cases hbd : wbd (r.raw.drop j) ty with
        | error c => rw [hbd] at h1; cases h1
        | ok y =>
          obtain ⟨n, s, m⟩ := y
          rw [hbd] at h1
          simp only [Except.ok.injEq, Prod.mk.injEq] at h1
          obtain ⟨h1, h3⟩ := h1
          have e1 : r.ty = ty := by rw [← h1]
          have e2 : r.s = s := by rw [← h1]
          have e3 : r.n = n := by rw [← h1]
          rw [e1, e2, e3]
          unfold wbd at hbd
          refine ⟨fun ht => ?_, fun ht => ?_, fun ht => ?_⟩
          · subst ht
            rw [if_neg (by decide), if_neg (by decide)] at hbd
            cases hv : wv (r.raw.drop j) with
            | error c => rw [hv] at hbd; cases hbd
            | ok z =>
              obtain ⟨a, i⟩ := z
              have hm := wv_min hv
              rw [hv] at hbd
              dsimp only at hbd
              rw [if_neg (by decide)] at hbd
              split at hbd
              · cases hbd
              · simp only [Except.ok.injEq, Prod.mk.injEq] at hbd
                obtain ⟨rfl, rfl, rfl⟩ := hbd
                have hl : (List.take a (List.drop i (List.drop j r.raw))).length = a := by simp only [List.length_take, List.length_drop] at *; omega
                rw [hl]
                exact ⟨rfl, by omega⟩
          · subst ht
            rw [if_neg (by decide), if_neg (by decide)] at hbd
            cases hv : wv (r.raw.drop j) with
            | error c => rw [hv] at hbd; cases hbd
            | ok z =>
              obtain ⟨a, i⟩ := z
              have hm := wv_min hv
              rw [hv] at hbd
              dsimp only at hbd
              rw [if_pos rfl] at hbd
              simp only [Except.ok.injEq, Prod.mk.injEq] at hbd
              obtain ⟨rfl, _, rfl⟩ := hbd
              exact ⟨(wv_bounds hv).2.2.2, by omega⟩
          · subst ht
            rw [if_pos rfl] at hbd
            split at hbd
            · cases hbd
            · simp only [Except.ok.injEq, Prod.mk.injEq] at hbd
              refine ⟨?_, by omega⟩
              rw [← hbd.1]
              have h8 : (List.take 8 (List.drop j r.raw)).length = 8 := by simp only [List.length_take, List.length_drop] at *; omega
              have := wlit_lt (List.take 8 (List.drop j r.raw))
              rwa [h8] at this
theorem munk_may {tk : Rec → Bool} {l : List UInt8} {d : Int} {rs : List Rec} (h : wall l d = .ok rs) : munkOk tk (munk tk rs) d = true := by
  have h1 := wall_recs _ (Nat.le_refl _) h
  have h2 := recs_wall (mrest tk rs) d (fun r hr => h1 r (List.mem_filter.1 hr).1)
  unfold munkOk munk
  rw [h2]
  show ((mrest tk rs).all fun r => !tk r) = true
  rw [List.all_eq_true]
  intro r hr
  exact (List.mem_filter.1 hr).2
/-- how a message was read -/
theorem mread_inv {σ : Type} {tk : Rec → Bool} {step : σ → Rec → Except Nat σ} {st st' : σ} {l u : List UInt8} {d : Int} (h : mread tk step st l d = .ok (st', u)) :
    0 ≤ d ∧ ∃ rs, mfold tk step st rs = .ok st' ∧ u = munk tk rs ∧ (∀ r ∈ rs, IsRec d r) ∧ rs.flatMap Rec.raw = l ∧ munkOk tk u d = true := by
  unfold mread at h
  split at h
  · cases h
  · cases hw : wall l d with
    | error c => rw [hw] at h; cases h
    | ok rs =>
      rw [hw] at h
      dsimp only at h
      cases hf : mfold tk step st rs with
      | error c => rw [hf] at h; cases h
      | ok o =>
        rw [hf] at h
        simp only [Except.ok.injEq, Prod.mk.injEq] at h
        obtain ⟨rfl, rfl⟩ := h
        exact ⟨by omega, rs, hf, rfl, wall_recs _ (Nat.le_refl _) hw, (wall_raws _ (Nat.le_refl _) hw).1, munk_may hw⟩
/-- the bytes of the records that the table takes -/
def tlen (tk : Rec → Bool) (rs : List Rec) : Nat := ((rs.filter tk).flatMap Rec.raw).length
theorem tlen_munk (tk : Rec → Bool) : ∀ (rs : List Rec), tlen tk rs + (munk tk rs).length = (rs.flatMap Rec.raw).length
  | [] => by simp [tlen, munk, mrest]
  | r :: rs => by
    have := tlen_munk tk rs
    unfold tlen munk mrest at this ⊢
    rw [List.filter_cons, List.filter_cons, List.flatMap_cons, List.length_append]
    cases tk r
    · simp only [Bool.not_false, if_true, Bool.false_eq_true, if_false, List.flatMap_cons, List.length_append]; omega
    · simp only [Bool.not_true, if_true, Bool.false_eq_true, if_false, List.flatMap_cons, List.length_append]; omega
/-- what holds of what is read, record by record, with the bytes so far -/
theorem mfold_tlen {σ : Type} {tk : Rec → Bool} {step : σ → Rec → Except Nat σ} {d : Int} (N : Nat) (I : σ → Nat → Prop) (hs : ∀ o t r o', I o t → IsRec d r → tk r = true → t + r.raw.length ≤ N → step o r = .ok o' → I o' (t + r.raw.length)) : ∀ (rs : List Rec) (o o' : σ) (t : Nat), (∀ r ∈ rs, IsRec d r) → I o t → t + tlen tk rs ≤ N → mfold tk step o rs = .ok o' → I o' (t + tlen tk rs)
  | [], o, o', t, _, h, _, hf => by
    simp only [mfold, Except.ok.injEq] at hf
    subst hf
    exact h
  | r :: rs, o, o', t, hr, h, ht, hf => by
    have h2 := fun z hz => hr z (List.mem_cons_of_mem _ hz)
    rw [mfold] at hf
    have e : tlen tk (r :: rs) = (if tk r then r.raw.length else 0) + tlen tk rs := by
      unfold tlen
      rw [List.filter_cons]
      split
      · rw [List.flatMap_cons, List.length_append]
      · rw [Nat.zero_add]
    rw [e] at ht ⊢
    split at hf
    · rename_i hk
      rw [if_pos hk] at ht ⊢
      cases hst : step o r with
      | error c => rw [hst] at hf; cases hf
      | ok o1 =>
        rw [hst] at hf
        have := mfold_tlen N I hs rs o1 o' (t + r.raw.length) h2 (hs o t r o1 h (hr r (List.mem_cons_self ..)) hk (by omega) hst) (by omega) hf
        rw [← Nat.add_assoc]
        exact this
    · rename_i hk
      rw [if_neg hk] at ht ⊢
      rw [Nat.zero_add] at ht ⊢
      exact mfold_tlen N I hs rs o o' t h2 h ht hf
theorem rB_len {num : Nat} (h : num ≤ 15) (s : List UInt8) : (rB num s).raw.length = 1 + (vput s.length).length + s.length := by
  show (vput (8 * num + 2) ++ (vput s.length ++ s)).length = _
  have : (vput (8 * num + 2)).length = 1 := by
    show (vputF 9 (8 * num + 2)).length = 1
    rw [vputF, if_pos (by omega)]; rfl
  rw [List.length_append, List.length_append, this]
  omega
theorem rN_len {num : Nat} (h : num ≤ 15) (n : Nat) : (rN num n).raw.length = 1 + (vput n).length := by
  show (vput (8 * num + 0) ++ vput n).length = _
  have : (vput (8 * num + 0)).length = 1 := by
    show (vputF 9 (8 * num + 0)).length = 1
    rw [vputF, if_pos (by omega)]; rfl
  rw [List.length_append, this]
theorem rF_len {num : Nat} (h : num ≤ 15) (n : Nat) : (rF num n).raw.length = 9 := by
  show (vput (8 * num + 1) ++ eight 8 n).length = _
  have : (vput (8 * num + 1)).length = 1 := by
    show (vputF 9 (8 * num + 1)).length = 1
    rw [vputF, if_pos (by omega)]; rfl
  rw [List.length_append, this, eight_len]
/-- the bytes of a text in a record -/
def bl (n : Nat) : Nat := 1 + (vput n).length + n
theorem bl_mono {a b : Nat} (h : a ≤ b) (hb : b ≤ 1000000) : bl a ≤ bl b := by unfold bl; have := vl_mono h (by omega); omega
theorem bl_add {a b : Nat} (h : a + b ≤ 1000000) : bl (a + b) + 1 ≤ bl a + bl b := by unfold bl; have := vl_add (a := a) (b := b) (by omega); omega
section
variable {α : Type} {rd : List UInt8 → Int → Except Nat α} {out : α → List UInt8} {may : α → Int → Bool} {wt : α → Nat} {fit : α → Prop}
/-- each of a list -/
def LInv (out : α → List UInt8) (may : α → Int → Bool) (wt : α → Nat) (fit : α → Prop) (d : Int) (l : List α) (t : Nat) : Prop :=
  (∀ x ∈ l, 0 ≤ d ∧ may x d = true ∧ fit x) ∧ ((l.map fun x => (rB 1 (out x)).raw.length).foldr (· + ·) 0) ≤ t ∧ ((l.map wt).foldr (· + ·) 0) ≤ 51 * t
theorem foldr_snoc (l : List Nat) (n : Nat) : (l ++ [n]).foldr (· + ·) 0 = l.foldr (· + ·) 0 + n := by
  induction l with
  | nil => simp
  | cons a l ih => simp only [List.cons_append, List.foldr_cons, ih]; omega
theorem lread_twice {l i : List UInt8} {xs : List α} {d : Int} (hl : l.length ≤ 1000000) (h : lread rd l d = .ok (xs, i)) (ih : ∀ t x, t.length ≤ l.length → rd t (d - 1) = .ok x → 0 ≤ d - 1 ∧ may x (d - 1) = true ∧ fit x ∧ (out x).length ≤ t.length ∧ wt x ≤ 100 + 51 * t.length) :
    0 ≤ d ∧ munkOk itk i d = true ∧ ∃ t, t + i.length = l.length ∧ LInv out may wt fit (d - 1) xs t := by
  unfold lread at h
  obtain ⟨h0, rs, h1, h2, h3, h4, h5⟩ := mread_inv h
  have h6 := tlen_munk itk rs
  rw [h4, ← h2] at h6
  refine ⟨h0, h5, tlen itk rs, h6, ?_⟩
  have := mfold_tlen (d := d) l.length (fun o t => LInv out may wt fit (d - 1) o t) (fun o t r o' hi hr hk ht hst => ?_) rs [] xs 0 h3 ⟨(fun x hx => by cases hx), by simp, by simp⟩ (by omega) h1
  · rwa [Nat.zero_add] at this
  · unfold lstep at hst
    cases hx : rd r.s (d - 1) with
    | error c => rw [hx] at hst; cases hst
    | ok x =>
      rw [hx] at hst
      simp only [Except.ok.injEq] at hst
      subst hst
      have hk2 : r.ty = 2 := by unfold itk at hk; exact (of_decide_eq_true hk).2
      have hb := ((rec_big hr).1 hk2).2
      obtain ⟨g1, g2, g3, g4, g5⟩ := ih r.s x (by omega) hx
      refine ⟨fun y hy => ?_, ?_, ?_⟩
      · rcases List.mem_append.1 hy with hy | hy
        · exact hi.1 y hy
        · rw [List.mem_singleton.1 hy]; exact ⟨g1, g2, g3⟩
      · rw [List.map_append, List.map_cons, List.map_nil, foldr_snoc, rB_len (by omega)]
        have := hi.2.1
        have := vl_mono g4 (by omega)
        omega
      · rw [List.map_append, List.map_cons, List.map_nil, foldr_snoc]
        have := hi.2.2
        have := (vput_length r.s.length).1
        omega
end
theorem vouts_sum : ∀ (l : List Val), (vouts 1 l).length = (l.map fun x => (rB 1 (vout x)).raw.length).foldr (· + ·) 0
  | [] => by rw [vouts]; rfl
  | x :: l => by rw [vouts, List.length_append, vouts_sum l]; rfl
theorem kouts_sum : ∀ (l : List KV), (kouts 1 l).length = (l.map fun x => (rB 1 (kout x)).raw.length).foldr (· + ·) 0
  | [] => by rw [kouts]; rfl
  | x :: l => by rw [kouts, List.length_append, kouts_sum l]; rfl
theorem vsw_sum : ∀ (l : List Val), vsw l = (l.map vw).foldr (· + ·) 0
  | [] => by rw [vsw]; rfl
  | x :: l => by rw [vsw, vsw_sum l]; rfl
theorem ksw_sum : ∀ (l : List KV), ksw l = (l.map kw).foldr (· + ·) 0
  | [] => by rw [ksw]; rfl
  | x :: l => by rw [ksw, ksw_sum l]; rfl
theorem vmays_of {d : Int} : ∀ {l : List Val}, (∀ x ∈ l, 0 ≤ d - 1 ∧ vmay x (d - 1) = true ∧ vfit x) → vmays l d = true ∧ vsfit l
  | [], _ => by rw [vmays, vsfit]; exact ⟨rfl, trivial⟩
  | x :: l, h => by
    have h1 := h x (List.mem_cons_self ..)
    have h2 := vmays_of (l := l) fun y hy => h y (List.mem_cons_of_mem _ hy)
    rw [vmays, vsfit, h1.2.1, h2.1, decide_eq_true (by omega : 1 ≤ d)]
    exact ⟨rfl, h1.2.2, h2.2⟩
theorem kmays_of {d : Int} : ∀ {l : List KV}, (∀ x ∈ l, 0 ≤ d - 1 ∧ kmay x (d - 1) = true ∧ kfit x) → kmays l d = true ∧ ksfit l
  | [], _ => by rw [kmays, ksfit]; exact ⟨rfl, trivial⟩
  | x :: l, h => by
    have h1 := h x (List.mem_cons_self ..)
    have h2 := kmays_of (l := l) fun y hy => h y (List.mem_cons_of_mem _ hy)
    rw [kmays, ksfit, h1.2.1, h2.1, decide_eq_true (by omega : 1 ≤ d)]
    exact ⟨rfl, h1.2.2, h2.2⟩
/-- what stands, after t bytes -/
def OInv (o : One) (t : Nat) : Prop :=
  o = one0 ∨ (vtk o.r = true ∧ (o.r.num = 1 → uvalid o.r.s = true) ∧ o.r.n < 2 ^ 64 ∧ (o.r.ty = 2 → bl o.r.s.length ≤ t ∧ bl o.ps.flatten.length ≤ t) ∧ (o.r.ty = 0 → 1 + (vput o.r.n).length ≤ t) ∧ (o.r.ty = 1 → 9 ≤ t))
theorem vtk_ty {r : Rec} (h : vtk r = true) : ((r.num = 1 ∨ r.num = 5 ∨ r.num = 6 ∨ r.num = 7) ∧ r.ty = 2) ∨ ((r.num = 2 ∨ r.num = 3) ∧ r.ty = 0) ∨ (r.num = 4 ∧ r.ty = 1) := of_decide_eq_true h
theorem ostep_twice {d : Int} {N : Nat} (hN : N ≤ 1000000) (o : One) (t : Nat) (r : Rec) (o' : One) (hi : OInv o t) (hr : IsRec d r) (hk : vtk r = true) (ht : t + r.raw.length ≤ N) (h : ostep o r = .ok o') : OInv o' (t + r.raw.length) := by
  have hb := rec_big hr
  have hf : r.n < 2 ^ 64 := by
    rcases vtk_ty hk with h1 | h1 | h1
    · rw [(hb.1 h1.2).1]; decide
    · exact (hb.2.1 h1.2).1
    · exact (hb.2.2 h1.2).1
  have hty := vtk_ty hk
  unfold ostep at h
  split at h
  · cases h
  · rename_i hn
    simp only [Except.ok.injEq] at h
    subst h
    refine .inr ⟨hk, fun h1 => ?_, hf, fun h2 => ?_, fun h0 => ?_, fun h0 => ?_⟩
    · show uvalid r.s = true
      cases hu : uvalid r.s
      · exact absurd ⟨h1, hu⟩ hn
      · rfl
    · have h3 : r.ty = 2 := h2
      have h4 := (hb.1 h3).2
      have h5 : bl r.s.length ≤ r.raw.length := by unfold bl; omega
      refine ⟨by show bl r.s.length ≤ _; omega, ?_⟩
      show bl (if r.num = o.r.num then o.ps ++ [r.s] else [r.s]).flatten.length ≤ _
      split
      · rename_i he
        rcases hi with rfl | ⟨k1, k2, k3, k4, k5, k6⟩
        · simp only [one0, List.nil_append, List.flatten_cons, List.flatten_nil, List.append_nil]; omega
        · have h6 : o.r.ty = 2 := by have := vtk_ty k1; omega
          have h7 := (k4 h6).2
          rw [List.flatten_append, List.length_append]
          simp only [List.flatten_cons, List.flatten_nil, List.append_nil]
          have : bl o.ps.flatten.length ≥ o.ps.flatten.length + 1 := by unfold bl; omega
          have := bl_add (a := o.ps.flatten.length) (b := r.s.length) (by omega)
          omega
      · simp only [List.flatten_cons, List.flatten_nil, List.append_nil]; omega
    · have h3 : r.ty = 0 := h0
      have := (hb.2.1 h3).2
      show 1 + (vput r.n).length ≤ _
      omega
    · have h3 : r.ty = 1 := h0
      have := (hb.2.2 h3).2
      omega
def KInv (st : List UInt8 × List (List UInt8)) (t : Nat) : Prop :=
  uvalid st.1 = true ∧ (krec st.1).length + (if st.2 = [] then 0 else bl st.2.flatten.length) ≤ t ∧ st.1.length + st.2.flatten.length ≤ t
theorem krec_bl (s : List UInt8) : (krec s).length ≤ bl s.length := by
  unfold krec
  split
  · simp
  · rw [rB_len (by omega)]; exact Nat.le_refl _
theorem kstep_twice {d : Int} {N : Nat} (hN : N ≤ 1000000) (st : List UInt8 × List (List UInt8)) (t : Nat) (r : Rec) (st' : List UInt8 × List (List UInt8)) (hi : KInv st t) (hr : IsRec d r) (hk : ktk r = true) (ht : t + r.raw.length ≤ N) (h : kstep st r = .ok st') : KInv st' (t + r.raw.length) := by
  have hty : (r.num = 1 ∨ r.num = 2) ∧ r.ty = 2 := of_decide_eq_true hk
  have hb := ((rec_big hr).1 hty.2).2
  have h5 : bl r.s.length ≤ r.raw.length := by unfold bl; omega
  have h6 := krec_bl r.s
  obtain ⟨i1, i2, i3⟩ := hi
  unfold kstep at h
  split at h
  · split at h
    · rename_i hu
      simp only [Except.ok.injEq] at h
      subst h
      refine ⟨hu, ?_, ?_⟩
      · show (krec r.s).length + (if st.2 = [] then 0 else bl st.2.flatten.length) ≤ _
        omega
      · show r.s.length + st.2.flatten.length ≤ _
        omega
    · cases h
  · simp only [Except.ok.injEq] at h
    subst h
    refine ⟨i1, ?_, ?_⟩
    · show (krec st.1).length + (if st.2 ++ [r.s] = [] then 0 else bl (st.2 ++ [r.s]).flatten.length) ≤ _
      rw [if_neg (by simp), List.flatten_append, List.length_append]
      simp only [List.flatten_cons, List.flatten_nil, List.append_nil]
      by_cases he : st.2 = []
      · rw [he] at i2 ⊢
        rw [if_pos rfl] at i2
        simp only [List.flatten_nil, List.length_nil, Nat.zero_add]
        omega
      · rw [if_neg he] at i2
        have := bl_add (a := st.2.flatten.length) (b := r.s.length) (by omega)
        omega
    · show st.1.length + (st.2 ++ [r.s]).flatten.length ≤ _
      rw [List.flatten_append, List.length_append]
      simp only [List.flatten_cons, List.flatten_nil, List.append_nil]
      omega
theorem vread_twice : ∀ (f : Nat), (∀ l d x, l.length ≤ 1000000 → vread f l d = .ok x → 0 ≤ d ∧ vmay x d = true ∧ vfit x ∧ (vout x).length ≤ l.length ∧ vw x ≤ 60 + 51 * l.length) ∧ (∀ l d x, l.length ≤ 1000000 → kread f l d = .ok x → 0 ≤ d ∧ kmay x d = true ∧ kfit x ∧ (kout x).length ≤ l.length ∧ kw x ≤ 100 + 51 * l.length)
  | 0 => ⟨fun l d x _ h => (by rw [vread] at h; cases h), fun l d x _ h => (by rw [kread] at h; cases h)⟩
  | f + 1 => by
    obtain ⟨iv, ik⟩ := vread_twice f
    refine ⟨fun l d x hl h => ?_, fun l d x hl h => ?_⟩
    · rw [vread] at h
      cases hm : mread vtk ostep one0 l d with
      | error c => rw [hm] at h; cases h
      | ok y =>
        obtain ⟨o, u⟩ := y
        rw [hm] at h
        dsimp only at h
        obtain ⟨h0, rs, h1, h2, h3, h4, h5⟩ := mread_inv hm
        have h6 := tlen_munk vtk rs
        rw [h4, ← h2] at h6
        have h7 := mfold_tlen (d := d) l.length OInv (ostep_twice hl) rs one0 o 0 h3 (.inl rfl) (by omega) h1
        rw [Nat.zero_add] at h7
        refine ⟨h0, ?_⟩
        obtain ⟨t, ht⟩ : ∃ t, tlen vtk rs = t := ⟨_, rfl⟩
        rw [ht] at h6 h7
        clear hm h1 h2 h3 h4 ht rs
        rcases h7 with rfl | ⟨k1, k2, k3, k4, k5, k6⟩
        · unfold stands one0 at h
          dsimp only at h
          rw [if_neg (by decide), if_neg (by decide), if_neg (by decide), if_neg (by decide), if_neg (by decide)] at h
          simp only [Except.ok.injEq] at h
          subst h
          refine ⟨?_, ?_, ?_, ?_⟩
          · rw [vmay, h5]; rfl
          · rw [vfit, vsfit, ksfit]; exact ⟨by omega, by omega, by simp, by simp, by omega, trivial, trivial⟩
          · rw [vout]; show (([] : List UInt8) ++ u).length ≤ _; rw [List.nil_append]; omega
          · rw [vw, vsw, ksw]; simp; omega
        · have e1 : ∀ (k : Nat) (s : List UInt8), (k = 1 ∨ k = 7) → o.r.num = k → (k = 1 → uvalid s = true) → bl s.length ≤ t → x = .mk (k : Int) s false 0 [] [] [] u → vmay x d = true ∧ vfit x ∧ (vout x).length ≤ l.length ∧ vw x ≤ 60 + 51 * l.length := fun k s hk hn hu hb hx => by
            subst hx
            have hb' : s.length ≤ bl s.length := by unfold bl; omega
            refine ⟨?_, ?_, ?_, ?_⟩
            · rw [vmay, h5]
              rcases hk with rfl | rfl
              · rw [hu rfl]; simp [vpl]
              · simp [vpl]
            · rw [vfit, vsfit, ksfit]; exact ⟨by omega, by omega, by omega, by simp, by omega, trivial, trivial⟩
            · rw [vout, List.length_append]
              have : (vrec (k : Int) s false 0 (vouts 1 []) (kouts 1 []) []).length = bl s.length := by
                unfold vrec
                rw [if_pos (by omega), Int.toNat_natCast, rB_len (by omega)]
                rfl
              omega
            · rw [vw, vsw, ksw]; simp; omega
          have e2 : ∀ (k n : Nat) (b : Bool) (c : Nat), (k = 2 ∧ n = 0 ∧ c = 2) ∨ (k = 3 ∧ b = false ∧ n < 2 ^ 64 ∧ c = 1 + (vput n).length) ∨ (k = 4 ∧ b = false ∧ n < 2 ^ 64 ∧ c = 9) → c ≤ t → x = .mk (k : Int) [] b n [] [] [] u → vmay x d = true ∧ vfit x ∧ (vout x).length ≤ l.length ∧ vw x ≤ 60 + 51 * l.length := fun k n b c hk hc hx => by
            subst hx
            refine ⟨?_, ?_, ?_, ?_⟩
            · rw [vmay, h5]
              rcases hk with ⟨rfl, rfl, _⟩ | ⟨rfl, rfl, _⟩ | ⟨rfl, rfl, _⟩ <;> simp [vpl]
            · rw [vfit, vsfit, ksfit]; exact ⟨by omega, by omega, by simp, by simp, by omega, trivial, trivial⟩
            · rw [vout, List.length_append]
              have : (vrec (k : Int) [] b n (vouts 1 []) (kouts 1 []) []).length = c := by
                unfold vrec
                rcases hk with ⟨rfl, rfl, rfl⟩ | ⟨rfl, rfl, _, rfl⟩ | ⟨rfl, rfl, _, rfl⟩
                · rw [if_neg (by decide), if_pos (by decide), rN_len (by omega)]
                  cases b <;> rfl
                · rw [if_neg (by decide), if_neg (by decide), if_pos (by decide), rN_len (by omega)]
                · rw [if_neg (by decide), if_neg (by decide), if_neg (by decide), if_pos (by decide), rF_len (by omega)]
              omega
            · rw [vw, vsw, ksw]; simp; omega
          unfold stands at h
          rcases vtk_ty k1 with ⟨hn, ht⟩ | ⟨hn, ht⟩ | ⟨hn, ht⟩
          · have k4 := k4 ht
            rcases hn with hn | hn | hn | hn
            · rw [hn] at h k2
              rw [if_pos (by decide)] at h
              simp only [Except.ok.injEq] at h
              exact e1 1 o.r.s (.inl rfl) hn (fun _ => k2 rfl) k4.1 h.symm
            · rw [hn] at h
              rw [if_neg (by decide), if_neg (by decide), if_neg (by decide), if_pos rfl] at h
              cases hr : lread (vread f) o.ps.flatten (d - 1) with
              | error c => rw [hr] at h; cases h
              | ok z =>
                obtain ⟨xs, i⟩ := z
                rw [hr] at h
                simp only [Except.ok.injEq] at h
                subst h
                have hb : o.ps.flatten.length + 2 ≤ bl o.ps.flatten.length := by unfold bl; have := (vput_length o.ps.flatten.length).1; omega
                obtain ⟨g1, g2, q, g3, g4, g5, g6⟩ := lread_twice (out := vout) (may := vmay) (wt := vw) (fit := vfit) (by omega) hr (fun t x ht hx => by
                  obtain ⟨a1, a2, a3, a4, a5⟩ := iv t _ x (by omega) hx
                  exact ⟨a1, a2, a3, a4, by omega⟩)
                obtain ⟨m1, m2⟩ := vmays_of g4
                rw [← vouts_sum] at g5
                rw [← vsw_sum] at g6
                refine ⟨?_, ?_, ?_, ?_⟩
                · rw [vmay, m1, g2, h5, kmays, decide_eq_true (by omega : 1 ≤ d)]
                  simp [vpl]
                · rw [vfit, ksfit]; exact ⟨by omega, by omega, by simp, by omega, by omega, m2, trivial⟩
                · rw [vout, List.length_append]
                  have : (vrec ((5 : Nat) : Int) [] false 0 (vouts 1 xs) (kouts 1 []) i).length = bl ((vouts 1 xs).length + i.length) := by
                    unfold vrec
                    rw [if_neg (by decide), if_neg (by decide), if_neg (by decide), if_neg (by decide), if_pos (by decide), rB_len (by omega), List.length_append]
                    rfl
                  rw [this]
                  have := bl_mono (a := (vouts 1 xs).length + i.length) (b := o.ps.flatten.length) (by omega) (by omega)
                  omega
                · rw [vw, ksw]; simp; omega
            · rw [hn] at h
              rw [if_neg (by decide), if_neg (by decide), if_neg (by decide), if_neg (by decide), if_pos rfl] at h
              cases hr : lread (kread f) o.ps.flatten (d - 1) with
              | error c => rw [hr] at h; cases h
              | ok z =>
                obtain ⟨xs, i⟩ := z
                rw [hr] at h
                simp only [Except.ok.injEq] at h
                subst h
                have hb : o.ps.flatten.length + 2 ≤ bl o.ps.flatten.length := by unfold bl; have := (vput_length o.ps.flatten.length).1; omega
                obtain ⟨g1, g2, q, g3, g4, g5, g6⟩ := lread_twice (out := kout) (may := kmay) (wt := kw) (fit := kfit) (by omega) hr (fun t x ht hx => ik t _ x (by omega) hx)
                obtain ⟨m1, m2⟩ := kmays_of g4
                rw [← kouts_sum] at g5
                rw [← ksw_sum] at g6
                refine ⟨?_, ?_, ?_, ?_⟩
                · rw [vmay, m1, g2, h5, vmays, decide_eq_true (by omega : 1 ≤ d)]
                  simp [vpl]
                · rw [vfit, vsfit]; exact ⟨by omega, by omega, by simp, by omega, by omega, trivial, m2⟩
                · rw [vout, List.length_append]
                  have : (vrec ((6 : Nat) : Int) [] false 0 (vouts 1 []) (kouts 1 xs) i).length = bl ((kouts 1 xs).length + i.length) := by
                    unfold vrec
                    rw [if_neg (by decide), if_neg (by decide), if_neg (by decide), if_neg (by decide), if_neg (by decide), if_pos (by decide), rB_len (by omega), List.length_append]
                    rfl
                  rw [this]
                  have := bl_mono (a := (kouts 1 xs).length + i.length) (b := o.ps.flatten.length) (by omega) (by omega)
                  omega
                · rw [vw, vsw]; simp; omega
            · rw [hn] at h
              rw [if_pos (by decide)] at h
              simp only [Except.ok.injEq] at h
              exact e1 7 o.r.s (.inr rfl) hn (fun h => by omega) k4.1 h.symm
          · have k5 := k5 ht
            rcases hn with hn | hn
            · rw [hn] at h
              rw [if_neg (by decide), if_pos rfl] at h
              simp only [Except.ok.injEq] at h
              have := (vput_length o.r.n).1
              exact e2 2 0 _ 2 (.inl ⟨rfl, rfl, rfl⟩) (by omega) h.symm
            · rw [hn] at h
              rw [if_neg (by decide), if_neg (by decide), if_pos (by decide)] at h
              simp only [Except.ok.injEq] at h
              exact e2 3 _ _ _ (.inr (.inl ⟨rfl, rfl, k3, rfl⟩)) k5 h.symm
          · have k6 := k6 ht
            rw [hn] at h
            rw [if_neg (by decide), if_neg (by decide), if_pos (by decide)] at h
            simp only [Except.ok.injEq] at h
            exact e2 4 _ _ _ (.inr (.inr ⟨rfl, rfl, k3, rfl⟩)) k6 h.symm
    · rw [kread] at h
      cases hm : mread ktk kstep ([], []) l d with
      | error c => rw [hm] at h; cases h
      | ok y =>
        obtain ⟨st, u⟩ := y
        rw [hm] at h
        dsimp only at h
        obtain ⟨h0, rs, h1, h2, h3, h4, h5⟩ := mread_inv hm
        have h6 := tlen_munk ktk rs
        rw [h4, ← h2] at h6
        have h7 := mfold_tlen (d := d) l.length KInv (kstep_twice hl) rs ([], []) st 0 h3 ⟨rfl, by simp [krec], by simp⟩ (by omega) h1
        rw [Nat.zero_add] at h7
        refine ⟨h0, ?_⟩
        obtain ⟨t, ht⟩ : ∃ t, tlen ktk rs = t := ⟨_, rfl⟩
        rw [ht] at h6 h7
        clear hm h1 h2 h3 h4 ht rs
        obtain ⟨i1, i2, i3⟩ := h7
        split at h
        · rename_i he
          simp only [Except.ok.injEq] at h
          subst h
          rw [if_pos he] at i2
          refine ⟨?_, ?_, ?_, ?_⟩
          · rw [kmay, i1, h5]; rfl
          · rw [kfit, Val.zero, vfit, vsfit, ksfit]; exact ⟨by omega, by omega, by omega, by omega, by simp, by simp, by simp, trivial, trivial⟩
          · rw [kout, List.length_append]; simp; omega
          · rw [kw, Val.zero, vw, vsw, ksw]; simp; omega
        · rename_i he
          cases hr : vread f st.2.flatten (d - 1) with
          | error c => rw [hr] at h; cases h
          | ok v =>
            rw [hr] at h
            simp only [Except.ok.injEq] at h
            subst h
            rw [if_neg he] at i2
            have hb : st.2.flatten.length + 2 ≤ bl st.2.flatten.length := by unfold bl; have := (vput_length st.2.flatten.length).1; omega
            obtain ⟨a1, a2, a3, a4, a5⟩ := iv _ _ v (by omega) hr
            refine ⟨?_, ?_, ?_, ?_⟩
            · rw [kmay, i1, h5, a2, decide_eq_true (by omega : 1 ≤ d)]; rfl
            · rw [kfit]; exact ⟨by omega, by omega, a3⟩
            · rw [kout, List.length_append, List.length_append, if_pos rfl, rB_len (by omega)]
              have := bl_mono a4 (by omega)
              unfold bl at this i2 hb
              omega
            · rw [kw]; omega
end Go.Proofs.YtbdbmkmebeemoaaGreatDoor

namespace Go.Proofs.YtbdbmkmebeemoaaGreatDoor
open Go.RowKit

theorem mfold_one {σ : Type} {tk : Rec → Bool} {step : σ → Rec → Except Nat σ} {s s' : σ} {r : Rec} (hk : tk r = true) (h : step s r = .ok s') : mfold tk step s [r] = .ok s' := by
  rw [mfold, if_pos hk, h]; rfl
def textF (num : Nat) : Fld where
  σ := List UInt8
  z := []
  tk r := decide (r.num = num ∧ r.ty = 2)
  step _ _ r := if uvalid r.s then .ok r.s else .error 5
  out s := if s = [] then [] else [rB num s]
  may _ s := uvalid s
  fit s := s.length ≤ 9223372036854775807
  wt s := s.length
  w0 := 0
  inv _ s t := uvalid s = true ∧ s.length ≤ t
theorem textF_ok {num : Nat} (h1 : 1 ≤ num) (h2 : num ≤ 536870911) : (textF num).Ok where
  recs := fun (s : List UInt8) hf hw r hr => by
    have hr : r ∈ (if s = [] then [] else [rB num s]) := hr
    split at hr
    · cases hr
    · rw [List.mem_singleton.1 hr]
      have hf : s.length ≤ 9223372036854775807 := hf
      exact ⟨decide_eq_true ⟨rfl, rfl⟩, fun d => rB_is h1 h2 (by omega) d⟩
  back := fun (s : List UInt8) d hf hw hd hm => by
    show mfold (textF num).tk ((textF num).step d) [] (if s = [] then [] else [rB num s]) = .ok s
    split
    · rename_i h; rw [h]; rfl
    · exact mfold_one (decide_eq_true ⟨rfl, rfl⟩) (if_pos hm)
  less := fun (s : List UInt8) d d' hf hw hm hle hn => by rw [show (textF num).may d' s = (textF num).may d s from rfl, hm] at hn; cases hn
  start := fun d => ⟨rfl, Nat.le_refl _⟩
  go := fun d (s : List UInt8) t r (s' : List UInt8) hi hr hk ht hs => by
    have hs : (if uvalid r.s then Except.ok r.s else .error 5) = Except.ok s' := hs
    split at hs
    · rename_i hu
      obtain rfl := Except.ok.inj hs
      exact ⟨hu, by have := isrec_s hr; show r.s.length ≤ _; omega⟩
    · cases hs
  ends := fun d (s : List UInt8) t hd hi ht => ⟨hi.1, by have : s.length ≤ t := hi.2; show s.length ≤ _; omega, by have : s.length ≤ t := hi.2; show s.length ≤ 0 + _; omega⟩
def var32F (num : Nat) : Fld where
  σ := Nat
  z := 0
  tk r := decide (r.num = num ∧ r.ty = 0)
  step _ _ r := .ok (r.n % 4294967296)
  out n := if n = 0 then [] else [rN num n]
  may _ _ := true
  fit n := n < 4294967296
  wt _ := 0
  w0 := 0
  inv _ n _ := n < 4294967296
theorem var32F_ok {num : Nat} (h1 : 1 ≤ num) (h2 : num ≤ 536870911) : (var32F num).Ok where
  recs := fun (s : Nat) hf hw r hr => by
    have hr : r ∈ (if s = 0 then [] else [rN num s]) := hr
    have hf : s < 4294967296 := hf
    split at hr
    · cases hr
    · rw [List.mem_singleton.1 hr]
      exact ⟨decide_eq_true ⟨rfl, rfl⟩, fun d => rN_is h1 h2 (by omega) d⟩
  back := fun (s : Nat) d hf hw hd hm => by
    have hf : s < 4294967296 := hf
    show mfold (σ := Nat) (var32F num).tk ((var32F num).step d) (0 : Nat) (if s = 0 then [] else [rN num s]) = .ok s
    split
    · rename_i h; rw [h]; rfl
    · refine mfold_one (decide_eq_true ⟨rfl, rfl⟩) ?_
      show Except.ok (s % 4294967296) = _
      rw [Nat.mod_eq_of_lt hf]
  less := fun (s : Nat) d d' hf hw hm hle hn => by cases hn
  start := fun d => by show 0 < 4294967296; omega
  go := fun d (s : Nat) t r (s' : Nat) hi hr hk ht hs => by
    have hs : Except.ok (r.n % 4294967296) = Except.ok s' := hs
    obtain rfl := Except.ok.inj hs
    show r.n % 4294967296 < 4294967296
    omega
  ends := fun d (s : Nat) t hd hi ht => ⟨rfl, hi, by show 0 ≤ _; omega⟩
/-- a message that stands in lists -/
structure Sub (α : Type) where
  rd : Int → List UInt8 → Except Nat α
  out : α → List UInt8
  may : Int → α → Bool
  fit : α → Prop
  wt : α → Nat
structure Sub.Ok {α : Type} (S : Sub α) : Prop where
  len : ∀ x, (S.out x).length ≤ S.wt x
  back : ∀ x d, S.fit x → S.wt x ≤ 1000000 → 0 ≤ d → S.may d x = true → S.rd d (S.out x) = .ok x
  less : ∀ x d d', S.fit x → S.wt x ≤ 1000000 → 0 ≤ d → S.may d x = true → d' ≤ d → (d' < 0 ∨ S.may d' x = false) → ∃ c, S.rd d' (S.out x) = .error c
  twice : ∀ t x d, t.length ≤ 1000000 → S.rd d t = .ok x → 0 ≤ d ∧ S.may d x = true ∧ S.fit x ∧ S.wt x ≤ 100 + 51 * t.length
def lsum (l : List Nat) : Nat := l.foldr (· + ·) 0
theorem lsum_snoc (l : List Nat) (n : Nat) : lsum (l ++ [n]) = lsum l + n := foldr_snoc l n
theorem lsum_mem {l : List Nat} {n : Nat} (h : n ∈ l) : n ≤ lsum l := by
  induction l with
  | nil => cases h
  | cons a l ih =>
    show n ≤ a + lsum l
    rcases List.mem_cons.1 h with rfl | h
    · omega
    · have := ih h; omega
def listTk (num : Nat) (r : Rec) : Bool := decide (r.num = num ∧ r.ty = 2)
def listStep {α : Type} (S : Sub α) (d : Int) (s : List α) (r : Rec) : Except Nat (List α) := match S.rd (d - 1) r.s with
  | .error c => .error c
  | .ok x => .ok (s ++ [x])
def listF {α : Type} (num : Nat) (S : Sub α) : Fld where
  σ := List α
  z := []
  tk r := listTk num r
  step d s r := listStep S d s r
  out s := s.map fun x => rB num (S.out x)
  may d s := s.all fun x => decide (1 ≤ d) && S.may (d - 1) x
  fit s := ∀ x ∈ s, S.fit x
  wt s := lsum (s.map S.wt)
  w0 := 0
  inv d s t := (∀ x ∈ s, 1 ≤ d ∧ S.may (d - 1) x = true ∧ S.fit x) ∧ lsum (s.map S.wt) ≤ 51 * t
theorem listF_back {α : Type} {num : Nat} {S : Sub α} {d : Int} : ∀ (l s : List α), (∀ x ∈ l, S.rd (d - 1) (S.out x) = .ok x) → mfold (listTk num) (listStep S d) s (l.map fun x => rB num (S.out x)) = .ok (s ++ l)
  | [], s, _ => by simp [mfold]
  | x :: l, s, h => by
    rw [List.map_cons, mfold, if_pos (show listTk num (rB num (S.out x)) = true from decide_eq_true ⟨rfl, rfl⟩)]
    have e : listStep S d s (rB num (S.out x)) = .ok (s ++ [x]) := by
      unfold listStep
      rw [show (rB num (S.out x)).s = S.out x from rfl, h x (List.mem_cons_self ..)]
    rw [e]
    dsimp only
    rw [listF_back l _ fun y hy => h y (List.mem_cons_of_mem _ hy), List.append_assoc]
    rfl
theorem listF_less {α : Type} {num : Nat} {S : Sub α} {d : Int} : ∀ (l s : List α), (∀ x ∈ l, S.rd (d - 1) (S.out x) = .ok x ∨ ∃ c, S.rd (d - 1) (S.out x) = .error c) → (∃ x ∈ l, ∃ c, S.rd (d - 1) (S.out x) = .error c) → ∃ c, mfold (listTk num) (listStep S d) s (l.map fun x => rB num (S.out x)) = .error c
  | [], s, _, h => by obtain ⟨x, hx, _⟩ := h; cases hx
  | x :: l, s, h, he => by
    rw [List.map_cons, mfold, if_pos (show listTk num (rB num (S.out x)) = true from decide_eq_true ⟨rfl, rfl⟩)]
    rcases h x (List.mem_cons_self ..) with h1 | ⟨c, h1⟩
    · have e : listStep S d s (rB num (S.out x)) = .ok (s ++ [x]) := by
        unfold listStep
        rw [show (rB num (S.out x)).s = S.out x from rfl, h1]
      rw [e]
      refine listF_less l _ (fun y hy => h y (List.mem_cons_of_mem _ hy)) ?_
      obtain ⟨y, hy, c, hc⟩ := he
      rcases List.mem_cons.1 hy with rfl | hy
      · rw [h1] at hc; cases hc
      · exact ⟨y, hy, c, hc⟩
    · have e : listStep S d s (rB num (S.out x)) = .error c := by
        unfold listStep
        rw [show (rB num (S.out x)).s = S.out x from rfl, h1]
      rw [e]
      exact ⟨c, rfl⟩
theorem listF_ok {α : Type} {num : Nat} {S : Sub α} (hS : S.Ok) (h1 : 1 ≤ num) (h2 : num ≤ 536870911) : (listF num S).Ok where
  recs := fun (s : List α) hf hw r hr => by
    obtain ⟨x, hx, rfl⟩ := List.mem_map.1 hr
    have hw : lsum (s.map S.wt) ≤ 1000000 := hw
    have := lsum_mem (List.mem_map_of_mem (f := S.wt) hx)
    have := hS.len x
    exact ⟨decide_eq_true ⟨rfl, rfl⟩, fun d => rB_is h1 h2 (by omega) d⟩
  back := fun (s : List α) d hf hw hd hm => by
    have hw : lsum (s.map S.wt) ≤ 1000000 := hw
    have hm : (s.all fun x => decide (1 ≤ d) && S.may (d - 1) x) = true := hm
    rw [List.all_eq_true] at hm
    refine (listF_back s [] fun x hx => ?_).trans (by rw [List.nil_append]; rfl)
    have h3 := hm x hx
    simp only [Bool.and_eq_true, decide_eq_true_eq] at h3
    exact hS.back x _ (hf x hx) (by have := lsum_mem (List.mem_map_of_mem (f := S.wt) hx); omega) (by omega) h3.2
  less := fun (s : List α) d d' hf hw hm hle hn => by
    have hw : lsum (s.map S.wt) ≤ 1000000 := hw
    have hm : (s.all fun x => decide (1 ≤ d) && S.may (d - 1) x) = true := hm
    have hn : (s.all fun x => decide (1 ≤ d') && S.may (d' - 1) x) = false := hn
    rw [List.all_eq_true] at hm
    have key : ∀ x ∈ s, S.rd (d' - 1) (S.out x) = .ok x ∨ ∃ c, S.rd (d' - 1) (S.out x) = .error c := fun x _ => by
      cases h : S.rd (d' - 1) (S.out x) with
      | error c => exact .inr ⟨c, rfl⟩
      | ok y =>
        rename_i hx
        have h3 := hm x hx
        simp only [Bool.and_eq_true, decide_eq_true_eq] at h3
        have hwx : S.wt x ≤ 1000000 := by have := lsum_mem (List.mem_map_of_mem (f := S.wt) hx); omega
        by_cases h4 : d' - 1 < 0 ∨ S.may (d' - 1) x = false
        · obtain ⟨c, hc⟩ := hS.less x (d - 1) (d' - 1) (hf x hx) hwx (by omega) h3.2 (by omega) h4
          rw [hc] at h; cases h
        · have h5 := hS.back x (d' - 1) (hf x hx) hwx (by omega) (by
            cases h6 : S.may (d' - 1) x
            · exact absurd (.inr h6) h4
            · rfl)
          rw [h5] at h
          exact .inl h.symm
    refine listF_less s [] key ?_
    rw [List.all_eq_false] at hn
    obtain ⟨x, hx, h4⟩ := hn
    have h3 := hm x hx
    simp only [Bool.and_eq_true, decide_eq_true_eq] at h3 h4
    refine ⟨x, hx, hS.less x (d - 1) (d' - 1) (hf x hx) (by have := lsum_mem (List.mem_map_of_mem (f := S.wt) hx); omega) (by omega) h3.2 (by omega) ?_⟩
    by_cases h5 : d' - 1 < 0
    · exact .inl h5
    · refine .inr ?_
      cases h6 : S.may (d' - 1) x
      · rfl
      · exact absurd ⟨by omega, h6⟩ h4
  start := fun d => ⟨(fun x hx => by cases hx), by show lsum [] ≤ _; simp [lsum]⟩
  go := fun d (s : List α) t r (s' : List α) hi hr hk ht hs => by
    have hs : (match S.rd (d - 1) r.s with
      | .error c => .error c
      | .ok x => .ok (s ++ [x])) = Except.ok s' := hs
    have hk : r.num = num ∧ r.ty = 2 := of_decide_eq_true hk
    cases hx : S.rd (d - 1) r.s with
    | error c => rw [hx] at hs; cases hs
    | ok x =>
      rw [hx] at hs
      obtain rfl := Except.ok.inj hs
      have hb := ((rec_big hr).1 hk.2).2
      have hv := (vput_length r.s.length).1
      obtain ⟨g1, g2, g3, g4⟩ := hS.twice r.s x (d - 1) (by omega) hx
      refine ⟨fun y hy => ?_, ?_⟩
      · rcases List.mem_append.1 hy with hy | hy
        · exact hi.1 y hy
        · rw [List.mem_singleton.1 hy]; exact ⟨by omega, g2, g3⟩
      · have : lsum (s.map S.wt) ≤ 51 * t := hi.2
        show lsum ((s ++ [x]).map S.wt) ≤ _
        rw [List.map_append, List.map_cons, List.map_nil, lsum_snoc]
        omega
  ends := fun d (s : List α) t hd hi ht => by
    refine ⟨?_, fun x hx => (hi.1 x hx).2.2, by have : lsum (s.map S.wt) ≤ 51 * t := hi.2; show lsum (s.map S.wt) ≤ 0 + _; omega⟩
    show (s.all fun x => decide (1 ≤ d) && S.may (d - 1) x) = true
    rw [List.all_eq_true]
    intro x hx
    have := hi.1 x hx
    rw [this.2.1, decide_eq_true this.1]; rfl
/-- attributes -/
def kvS : Sub KV where
  rd d t := kread 1000001 t d
  out := kout
  may d x := kmay x d
  fit := kfit
  wt := kw
theorem kvS_ok : kvS.Ok where
  len := fun x => by have := kout_le x; have := kw_kb x; show (kout x).length ≤ kw x; omega
  back := fun x d hf hw hd hm => kback x d 1000001 hf hw hm hd (by have := kout_le x; have := kw_kb x; have hw : kw x ≤ 1000000 := hw; omega)
  less := fun x d d' hf hw hd hm hle hn => kback_no x d d' 1000001 hf hw hm hle (by
    rw [kmayD]
    rcases hn with hn | hn
    · rw [decide_eq_false (by omega : ¬ 0 ≤ d')]; rfl
    · rw [show kmay x d' = false from hn, Bool.and_false]) (by have := kout_le x; have := kw_kb x; have hw : kw x ≤ 1000000 := hw; omega)
  twice := fun t x d ht h => by
    obtain ⟨a1, a2, a3, _, a5⟩ := (vread_twice 1000001).2 t d x ht h
    exact ⟨a1, a2, a3, a5⟩
theorem kvs_may (num : Nat) (d : Int) : ∀ l : List KV, (listF num kvS).may d l = kmays l d
  | [] => by rw [kmays]; rfl
  | x :: l => by
    rw [kmays, ← kvs_may num d l]
    rfl
theorem kvs_out (num : Nat) : ∀ l : List KV, ((listF num kvS).out l).flatMap Rec.raw = kouts num l
  | [] => by rw [kouts]; rfl
  | x :: l => by rw [kouts, ← kvs_out num l]; rfl
theorem kvs_fit2 {num : Nat} {l : List KV} (h : ksfit l) : (listF num kvS).fit l := fun x hx => ksfit_at h x hx
theorem kvs_wt (num : Nat) : ∀ l : List KV, (listF num kvS).wt l = ksw l
  | [] => by rw [ksw]; rfl
  | x :: l => by rw [ksw, ← kvs_wt num l]; rfl
end Go.Proofs.YtbdbmkmebeemoaaGreatDoor

namespace Go.Proofs.YtbdbmkmebeemoaaGreatDoor
open Go.RowKit Go.ChangeShapes Go.WideShapes Go.ChangeAt Go.Deep

set_option maxRecDepth 1000000 in
theorem val_shape : ∃ f0 f1 f2 f3 f4 f5 f6 f7 : Field, Tryz.prog.underlying 76 = some (.struct #[f0, f1, f2, f3, f4, f5, f6, f7]) ∧ Tryz.prog.cellsOf 76 = 8 ∧
  (f0.offset = 0 ∧ f1.offset = 1 ∧ f2.offset = 2 ∧ f3.offset = 3 ∧ f4.offset = 4 ∧ f5.offset = 5 ∧ f6.offset = 6 ∧ f7.offset = 7) ∧
  (Tryz.prog.cellsOf f0.type = 1 ∧ Tryz.prog.cellsOf f1.type = 1 ∧ Tryz.prog.cellsOf f2.type = 1 ∧ Tryz.prog.cellsOf f3.type = 1 ∧ Tryz.prog.cellsOf f4.type = 1 ∧ Tryz.prog.cellsOf f5.type = 1 ∧ Tryz.prog.cellsOf f6.type = 1 ∧ Tryz.prog.cellsOf f7.type = 1) ∧
  (Tryz.prog.underlying f0.type = some (.int .i64) ∧ Tryz.prog.underlying f1.type = some .string ∧ Tryz.prog.underlying f2.type = some .bool ∧ Tryz.prog.underlying f3.type = some (.int .u64) ∧ Tryz.prog.underlying f4.type = some (.slice 76) ∧ Tryz.prog.underlying f5.type = some (.slice 78) ∧ Tryz.prog.underlying f6.type = some .string ∧ Tryz.prog.underlying f7.type = some .string) :=
 ⟨_, _, _, _, _, _, _, _, Tryz.underlying76, by kernel_rfl, ⟨by kernel_rfl, by kernel_rfl, by kernel_rfl, by kernel_rfl, by kernel_rfl, by kernel_rfl, by kernel_rfl, by kernel_rfl⟩, ⟨by kernel_rfl, by kernel_rfl, by kernel_rfl, by kernel_rfl, by kernel_rfl, by kernel_rfl, by kernel_rfl, by kernel_rfl⟩, ⟨by kernel_rfl, by kernel_rfl, by kernel_rfl, by kernel_rfl, by kernel_rfl, by kernel_rfl, by kernel_rfl, by kernel_rfl⟩⟩
set_option maxRecDepth 1000000 in
theorem key_shape : ∃ f0 f1 f2 f3 : Field, Tryz.prog.underlying 78 = some (.struct #[f0, f1, f2, f3]) ∧ Tryz.prog.cellsOf 78 = 11 ∧
  (f0.offset = 0 ∧ f1.offset = 1 ∧ f2.offset = 2 ∧ f3.offset = 10) ∧
  (Tryz.prog.cellsOf f0.type = 1 ∧ Tryz.prog.cellsOf f1.type = 1 ∧ Tryz.prog.cellsOf f2.type = 8 ∧ Tryz.prog.cellsOf f3.type = 1) ∧
  (Tryz.prog.underlying f0.type = some .string ∧ Tryz.prog.underlying f1.type = some .bool ∧ f2.type = 76 ∧ Tryz.prog.underlying f3.type = some .string) :=
 ⟨_, _, _, _, Tryz.underlying78, by kernel_rfl, ⟨by kernel_rfl, by kernel_rfl, by kernel_rfl, by kernel_rfl⟩, ⟨by kernel_rfl, by kernel_rfl, by kernel_rfl, by kernel_rfl⟩, ⟨by kernel_rfl, by kernel_rfl, by kernel_rfl, by kernel_rfl⟩⟩
theorem cells_of {w : World} {base c : Nat} {b off : Nat} {cs : List Value} (h : w.cells? base ⟨b, off, none⟩ c = some cs) : Cells w b off cs ∧ cs.length = c := by
 obtain ⟨_, h2, h3⟩ := World.cells?_some h
 refine ⟨fun i hi => ?_, h2⟩
 have := h3 i (by omega)
 have e : (⟨b, off, none⟩ : Addr).add i = ⟨b, off + i, none⟩ := by unfold Addr.add; split <;> simp_all
 rw [e] at this
 rw [this, List.getElem?_eq_getElem hi]
set_option maxRecDepth 1000000 in
theorem slice_tree {α : Type} {H : Type} {enc : TypeId × Value → H} {W : World} {sp : Nat → Bool} {t e : TypeId} {fuel c : Nat} {cs : List Value} {x : DataW H × List MemPlace} (good : α → List Value → Prop) (hc : Tryz.prog.cellsOf e = c) (hpos : 0 < c) (ht : Tryz.prog.underlying t = some (.slice e))
  (hel : ∀ n, n < fuel → ∀ cs x, DataW.trod enc Tryz.prog W 0 sp true n e cs = some x → ∃ a : α, good a cs) (h : DataW.trod enc Tryz.prog W 0 sp true fuel t cs = some x) :
  ∃ (lo : Option Addr) (cap : Nat) (l : List α), cs = [.slice lo l.length cap] ∧ l.length ≤ 9223372036854775807 ∧ (l ≠ [] → ∃ g off, lo = some ⟨g, off, none⟩ ∧ g < W.heap.size ∧ ∀ j (h : j < l.length), ∃ ds, Cells W g (off + c * j) ds ∧ good l[j] ds) := by
 rcases DataW.trod_slice ht h with ⟨h1, _⟩ | ⟨a, len, cap, elems, rest, n, hf, h1, _, _, hlc, hcm, hl, hx, _, _⟩
 ·exact ⟨none, 0, [], h1, by simp, fun h => absurd rfl h⟩
 ·subst hf
  have hcm' : cap ≤ 9223372036854775807 := hcm
  have each : ∀ i, i < len → ∃ y : α, ∃ ds, W.cells? 0 (a.add (i * c)) c = some ds ∧ good y ds := fun i hi => by
   have h2 := hx i hi
   rw [hc] at h2
   rw [List.getElem?_eq_getElem (by omega)] at h2
   cases hw : W.cells? 0 (a.add (i * c)) c with
   | none => rw [hw] at h2; cases h2
   | some ds =>
    rw [hw] at h2
    obtain ⟨y, hy⟩ := hel n (by omega) ds _ h2
    exact ⟨y, ds, rfl, hy⟩
  rcases Nat.eq_zero_or_pos len with e0 | hp
  ·subst e0
   exact ⟨some a, cap, [], h1, by simp, fun h => absurd rfl h⟩
  ·obtain ⟨y0, _⟩ := each 0 hp
   have : Inhabited α := ⟨y0⟩
   obtain ⟨Y, hY⟩ := choose_lt each
   have hll : ((List.range len).map Y).length = len := by simp
   have hspot : ∀ i, i < len → ∀ ds, W.cells? 0 (a.add (i * c)) c = some ds → W.cell? ((a.add (i * c)).add 0) = ds[0]? := fun i _ ds hd => (World.cells?_some hd).2.2 0 hpos
   obtain ⟨b, off, spot⟩ := a
   obtain ⟨ds0, hd0, _⟩ := hY 0 hp
   have hd0l := (World.cells?_some hd0).2.1
   have hcell := hspot 0 hp ds0 hd0
   rw [List.getElem?_eq_getElem (by omega)] at hcell
   have hsp : spot = none := by simpa [Addr.add] using World.cell?_spot hcell
   subst hsp
   have hb : b < W.heap.size := by
    have := World.block_lt_of_cell? W _ hcell
    simpa [Addr.add] using this
   refine ⟨some ⟨b, off, none⟩, cap, (List.range len).map Y, by rw [hll]; exact h1, by rw [hll]; omega, fun _ => ⟨b, off, rfl, hb, fun j hj => ?_⟩⟩
   have hj' : j < len := by simpa using hj
   obtain ⟨ds, hd, hg⟩ := hY j hj'
   have ea : (⟨b, off, none⟩ : Addr).add (j * c) = ⟨b, off + c * j, none⟩ := by unfold Addr.add; split <;> simp_all [Nat.mul_comm]
   rw [ea] at hd
   exact ⟨ds, (cells_of hd).1, by simpa using hg⟩
theorem vrels_of {w : World} {P : Nat → Prop} {g off : Nat} (hg : P g) (hlt : g < w.heap.size) : ∀ (l : List Val) (i : Nat), (∀ j (h : j < l.length), ∃ ds, Cells w g (off + 8 * (i + j)) ds ∧ VRel w P l[j] ds) → VRels w P l (some ⟨g, off, none⟩) i
 | [], _, _ => by rw [VRels]; trivial
 | x :: xs, i, h => by
  rw [VRels]
  obtain ⟨ds, h1, h2⟩ := h 0 (by simp)
  refine ⟨⟨g, off, ds, rfl, hg, hlt, h1, h2⟩, vrels_of hg hlt xs (i + 1) fun j hj => ?_⟩
  obtain ⟨ds, h1, h2⟩ := h (j + 1) (by simpa using hj)
  exact ⟨ds, by rw [show i + 1 + j = i + (j + 1) by omega]; exact h1, h2⟩
theorem krels_of {w : World} {P : Nat → Prop} {g off : Nat} (hg : P g) (hlt : g < w.heap.size) : ∀ (l : List KV) (i : Nat), (∀ j (h : j < l.length), ∃ ds, Cells w g (off + 11 * (i + j)) ds ∧ KRel w P l[j] ds) → KRels w P l (some ⟨g, off, none⟩) i
 | [], _, _ => by rw [KRels]; trivial
 | x :: xs, i, h => by
  rw [KRels]
  obtain ⟨ds, h1, h2⟩ := h 0 (by simp)
  refine ⟨⟨g, off, ds, rfl, hg, hlt, h1, h2⟩, krels_of hg hlt xs (i + 1) fun j hj => ?_⟩
  obtain ⟨ds, h1, h2⟩ := h (j + 1) (by simpa using hj)
  exact ⟨ds, by rw [show i + 1 + j = i + (j + 1) by omega]; exact h1, h2⟩
set_option maxRecDepth 1000000 in
theorem vslice_tree {H : Type} {enc : TypeId × Value → H} {W : World} {sp : Nat → Bool} {t : TypeId} {fuel : Nat} {cs : List Value} {x : DataW H × List MemPlace} (ht : Tryz.prog.underlying t = some (.slice 76))
  (hel : ∀ n, n < fuel → ∀ cs x, DataW.trod enc Tryz.prog W 0 sp true n 76 cs = some x → ∃ a : Val, VRel W (fun k => k < W.heap.size) a cs ∧ vlim a ∧ vfit a) (h : DataW.trod enc Tryz.prog W 0 sp true fuel t cs = some x) :
  ∃ (lo : Option Addr) (cap : Nat) (l : List Val), cs = [.slice lo l.length cap] ∧ l.length ≤ 9223372036854775807 ∧ VRels W (fun k => k < W.heap.size) l lo 0 ∧ vslim l ∧ vsfit l := by
 obtain ⟨lo, cap, l, h1, h2, h3⟩ := slice_tree (fun (a : Val) cs => VRel W (fun k => k < W.heap.size) a cs ∧ vlim a ∧ vfit a) (c := 8) (by kernel_rfl) (by decide) ht hel h
 by_cases h0 : l = []
 ·subst h0
  exact ⟨lo, cap, [], h1, h2, by rw [VRels]; trivial, by rw [vslim]; trivial, by rw [vsfit]; trivial⟩
 ·obtain ⟨g, off, rfl, hg, hh⟩ := h3 h0
  refine ⟨_, cap, l, h1, h2, vrels_of (P := fun k => k < W.heap.size) hg hg l 0 (fun j hj => ?_), vslim_of (fun y hy => ?_), vsfit_of (fun y hy => ?_)⟩
  ·obtain ⟨ds, h4, h5⟩ := hh j hj
   exact ⟨ds, by rw [Nat.zero_add]; exact h4, h5.1⟩
  ·obtain ⟨j, hj, rfl⟩ := List.getElem_of_mem hy
   obtain ⟨ds, h4, h5⟩ := hh j hj
   exact h5.2.1
  ·obtain ⟨j, hj, rfl⟩ := List.getElem_of_mem hy
   obtain ⟨ds, h4, h5⟩ := hh j hj
   exact h5.2.2
set_option maxRecDepth 1000000 in
theorem kslice_tree {H : Type} {enc : TypeId × Value → H} {W : World} {sp : Nat → Bool} {t : TypeId} {fuel : Nat} {cs : List Value} {x : DataW H × List MemPlace} (ht : Tryz.prog.underlying t = some (.slice 78))
  (hel : ∀ n, n < fuel → ∀ cs x, DataW.trod enc Tryz.prog W 0 sp true n 78 cs = some x → ∃ a : KV, KRel W (fun k => k < W.heap.size) a cs ∧ klim a ∧ kfit a) (h : DataW.trod enc Tryz.prog W 0 sp true fuel t cs = some x) :
  ∃ (lo : Option Addr) (cap : Nat) (l : List KV), cs = [.slice lo l.length cap] ∧ l.length ≤ 9223372036854775807 ∧ KRels W (fun k => k < W.heap.size) l lo 0 ∧ kslim l ∧ ksfit l := by
 obtain ⟨lo, cap, l, h1, h2, h3⟩ := slice_tree (fun (a : KV) cs => KRel W (fun k => k < W.heap.size) a cs ∧ klim a ∧ kfit a) (c := 11) (by kernel_rfl) (by decide) ht hel h
 by_cases h0 : l = []
 ·subst h0
  exact ⟨lo, cap, [], h1, h2, by rw [KRels]; trivial, by rw [kslim]; trivial, by rw [ksfit]; trivial⟩
 ·obtain ⟨g, off, rfl, hg, hh⟩ := h3 h0
  refine ⟨_, cap, l, h1, h2, krels_of (P := fun k => k < W.heap.size) hg hg l 0 (fun j hj => ?_), kslim_of (fun y hy => ?_), ksfit_of (fun y hy => ?_)⟩
  ·obtain ⟨ds, h4, h5⟩ := hh j hj
   exact ⟨ds, by rw [Nat.zero_add]; exact h4, h5.1⟩
  ·obtain ⟨j, hj, rfl⟩ := List.getElem_of_mem hy
   obtain ⟨ds, h4, h5⟩ := hh j hj
   exact h5.2.1
  ·obtain ⟨j, hj, rfl⟩ := List.getElem_of_mem hy
   obtain ⟨ds, h4, h5⟩ := hh j hj
   exact h5.2.2
set_option maxRecDepth 1000000 in
theorem tree_all {H : Type} {enc : TypeId × Value → H} {W : World} {sp : Nat → Bool} : ∀ (N n : Nat), n < N → (∀ cs x, DataW.trod enc Tryz.prog W 0 sp true n 76 cs = some x → ∃ a : Val, VRel W (fun k => k < W.heap.size) a cs ∧ vlim a ∧ vfit a) ∧ (∀ cs x, DataW.trod enc Tryz.prog W 0 sp true n 78 cs = some x → ∃ a : KV, KRel W (fun k => k < W.heap.size) a cs ∧ klim a ∧ kfit a)
 | 0, _, h => by omega
 | N + 1, n, hn => by
  have ih := tree_all (enc := enc) (W := W) (sp := sp) N
  refine ⟨fun cs x h => ?_, fun cs x h => ?_⟩
  ·obtain ⟨f0, f1, f2, f3, f4, f5, f6, f7, hT, ce, ⟨o0, o1, o2, o3, o4, o5, o6, o7⟩, ⟨c0, c1, c2, c3, c4, c5, c6, c7⟩, ⟨t0, t1, t2, t3, t4, t5, t6, t7⟩⟩ := val_shape
   obtain ⟨xs, n', hf, _, hl, hlen, hx⟩ := DataW.trod_struct hT h
   rw [ce] at hl
   obtain ⟨V0, V1, V2, V3, V4, V5, V6, V7, rfl⟩ : ∃ V0 V1 V2 V3 V4 V5 V6 V7, cs = [V0, V1, V2, V3, V4, V5, V6, V7] := by
    match cs, hl with
    | [a, b, c, d, e, f, g, h], _ => exact ⟨a, b, c, d, e, f, g, h, rfl⟩
   match xs, hlen with
   | [y0, y1, y2, y3, y4, y5, y6, y7], _ =>
   have g0 := hx 0 f0 rfl
   have g1 := hx 1 f1 rfl
   have g2 := hx 2 f2 rfl
   have g3 := hx 3 f3 rfl
   have g4 := hx 4 f4 rfl
   have g5 := hx 5 f5 rfl
   have g6 := hx 6 f6 rfl
   have g7 := hx 7 f7 rfl
   rw [o0, c0] at g0
   rw [o1, c1] at g1
   rw [o2, c2] at g2
   rw [o3, c3] at g3
   rw [o4, c4] at g4
   rw [o5, c5] at g5
   rw [o6, c6] at g6
   rw [o7, c7] at g7
   obtain ⟨z0, e0, _, w0⟩ := DataW.trod_int t0 g0
   obtain ⟨z1, e1, _, w1⟩ := DataW.trod_string t1 g1
   obtain ⟨z2, e2, _⟩ := DataW.trod_bool t2 g2
   obtain ⟨z3, e3, _, w3⟩ := DataW.trod_int t3 g3
   obtain ⟨lo, lc, l, e4, b4, r4, m4, n4⟩ := vslice_tree t4 (fun q hq => (ih q (by omega)).1) g4
   obtain ⟨mo, mc, m, e5, b5, r5, m5, n5⟩ := kslice_tree t5 (fun q hq => (ih q (by omega)).2) g5
   obtain ⟨z6, e6, _, w6⟩ := DataW.trod_string t6 g6
   obtain ⟨z7, e7, _, w7⟩ := DataW.trod_string t7 g7
   simp only [List.drop_zero, List.drop_succ_cons, List.take_succ_cons, List.take_zero, List.cons.injEq, and_true] at e0 e1 e2 e3 e4 e5 e6 e7
   subst e0 e1 e2 e3 e4 e5 e6 e7
   simp [Lit.wf, IntKind.min, IntKind.max, IntKind.signed, IntKind.bits] at w0 w3
   obtain ⟨k3, rfl⟩ : ∃ k : Nat, z3 = (k : Int) := ⟨z3.toNat, by omega⟩
   have w1' : z1.size ≤ 9223372036854775807 := w1
   have w6' : z6.size ≤ 9223372036854775807 := w6
   have w7' : z7.size ≤ 9223372036854775807 := w7
   refine ⟨.mk z0 z1.data.toList z2 k3 l m z6.data.toList z7.data.toList, ?_, ?_, ?_⟩
   ·rw [VRel]
    exact ⟨lo, lc, mo, mc, by simp [strV], r4, r5⟩
   ·rw [vlim]
    exact ⟨b4, b5, m4, m5⟩
   ·rw [vfit]
    exact ⟨by omega, by omega, by simpa using w1', by simpa using w6', by simpa using w7', n4, n5⟩
  ·obtain ⟨f0, f1, f2, f3, hT, ce, ⟨o0, o1, o2, o3⟩, ⟨c0, c1, c2, c3⟩, ⟨t0, t1, t2, t3⟩⟩ := key_shape
   obtain ⟨xs, n', hf, _, hl, hlen, hx⟩ := DataW.trod_struct hT h
   rw [ce] at hl
   obtain ⟨V0, V1, V2, V3, V4, V5, V6, V7, V8, V9, V10, rfl⟩ : ∃ V0 V1 V2 V3 V4 V5 V6 V7 V8 V9 V10, cs = [V0, V1, V2, V3, V4, V5, V6, V7, V8, V9, V10] := by
    match cs, hl with
    | [a, b, c, d, e, f, g, h, i, j, k], _ => exact ⟨a, b, c, d, e, f, g, h, i, j, k, rfl⟩
   match xs, hlen with
   | [y0, y1, y2, y3], _ =>
   have g0 := hx 0 f0 rfl
   have g1 := hx 1 f1 rfl
   have g2 := hx 2 f2 rfl
   have g3 := hx 3 f3 rfl
   rw [o0, c0] at g0
   rw [o1, c1] at g1
   rw [o2, c2, t2] at g2
   rw [o3, c3] at g3
   obtain ⟨z0, e0, _, w0⟩ := DataW.trod_string t0 g0
   obtain ⟨z1, e1, _⟩ := DataW.trod_bool t1 g1
   obtain ⟨z3, e3, _, w3⟩ := DataW.trod_string t3 g3
   obtain ⟨v, hv, hvl, hvf⟩ := (ih n' (by omega)).1 _ _ g2
   simp only [List.drop_zero, List.drop_succ_cons, List.take_succ_cons, List.take_zero, List.cons.injEq, and_true] at e0 e1 e3 hv
   subst e0 e1 e3
   have w0' : z0.size ≤ 9223372036854775807 := w0
   have w3' : z3.size ≤ 9223372036854775807 := w3
   refine ⟨.mk z0.data.toList z1 v z3.data.toList, ?_, ?_, ?_⟩
   ·rw [KRel]
    exact ⟨_, hv, by simp [strV]⟩
   ·rw [klim]
    exact hvl
   ·rw [kfit]
    exact ⟨by simpa using w0', by simpa using w3', hvf⟩
end Go.Proofs.YtbdbmkmebeemoaaGreatDoor

namespace Go.Proofs.YtbdbmkmebeemoaaGreatDoor
open Go.RowKit

/-- what a resource has: its attributes, how many were dropped -/
def rsF : Fld := (listF 1 kvS).and (var32F 2)
/-- what a scope has: name, version, attributes, how many were dropped -/
def scF : Fld := (textF 1).and ((textF 2).and ((listF 3 kvS).and (var32F 4)))
theorem apart_of {A B : Fld} (h : ∀ r, A.tk r = true → B.tk r = false) : A.Apart B := fun r hr => by rw [h r hr.1] at hr; cases hr.2
theorem scF_ok : scF.Ok := (textF_ok (by omega) (by omega)).and ((textF_ok (by omega) (by omega)).and ((listF_ok kvS_ok (by omega) (by omega)).and (var32F_ok (by omega) (by omega)) (apart_of fun r h => by
  have h : r.num = 3 ∧ r.ty = 2 := of_decide_eq_true h
  exact decide_eq_false (by omega))) (apart_of fun r h => by
  have h : r.num = 2 ∧ r.ty = 2 := of_decide_eq_true h
  show (decide _ || decide _) = false
  rw [decide_eq_false (by omega), decide_eq_false (by omega)]; rfl)) (apart_of fun r h => by
  have h : r.num = 1 ∧ r.ty = 2 := of_decide_eq_true h
  show (decide _ || (decide _ || decide _)) = false
  rw [decide_eq_false (by omega), decide_eq_false (by omega), decide_eq_false (by omega)]; rfl)
theorem rsF_tk (r : Rec) : rsF.tk r = decide (r.num = 1 ∧ r.ty = 2 ∨ r.num = 2 ∧ r.ty = 0) := by
  show (decide _ || decide _) = _
  rw [Bool.decide_or]
theorem scF_tk (r : Rec) : scF.tk r = decide ((r.num = 1 ∨ r.num = 2 ∨ r.num = 3) ∧ r.ty = 2 ∨ r.num = 4 ∧ r.ty = 0) := by
  show (decide _ || (decide _ || (decide _ || decide _))) = _
  rw [← Bool.decide_or, ← Bool.decide_or, ← Bool.decide_or]
  exact decide_eq_decide.2 (by omega)
theorem kv_ok {num : Nat} {d : Int} {l : List KV} {r : Rec} {x : KV} (e : kread 1000001 r.s (d - 1) = .ok x) : (listF num kvS).step d l r = .ok (l ++ [x]) := by
  show listStep kvS d l r = _
  unfold listStep
  rw [show kvS.rd (d - 1) r.s = .ok x from e]
  rfl
theorem kv_no {num : Nat} {d : Int} {l : List KV} {r : Rec} {c : Nat} (e : kread 1000001 r.s (d - 1) = .error c) : (listF num kvS).step d l r = .error c := by
  show listStep kvS d l r = _
  unfold listStep
  rw [show kvS.rd (d - 1) r.s = .error c from e]
  rfl
theorem text_ok {num : Nat} {d : Int} {a : List UInt8} {r : Rec} (e : uvalid r.s = true) : (textF num).step d a r = .ok r.s := if_pos e
theorem text_no {num : Nat} {d : Int} {a : List UInt8} {r : Rec} (e : uvalid r.s = false) : (textF num).step d a r = .error 5 := if_neg (by rw [e]; simp)
theorem scF_1 {r : Rec} (h : r.num = 1 ∧ r.ty = 2) (d : Int) (a b : List UInt8) (l : List KV) (n : Nat) : scF.step d (a, b, l, n) r = if uvalid r.s then .ok (r.s, b, l, n) else .error 5 := by
  cases e : uvalid r.s with
  | true => exact Fld.and_1ok (decide_eq_true h) (text_ok e)
  | false => exact Fld.and_1no (decide_eq_true h) (text_no e)
theorem scF_2 {r : Rec} (h : r.num = 2 ∧ r.ty = 2) (d : Int) (a b : List UInt8) (l : List KV) (n : Nat) : scF.step d (a, b, l, n) r = if uvalid r.s then .ok (a, r.s, l, n) else .error 5 := by
  cases e : uvalid r.s with
  | true => exact Fld.and_2ok (decide_eq_false (by omega)) (Fld.and_1ok (decide_eq_true h) (text_ok e))
  | false => exact Fld.and_2no (decide_eq_false (by omega)) (Fld.and_1no (decide_eq_true h) (text_no e))
theorem scF_3 {r : Rec} (h : r.num = 3 ∧ r.ty = 2) (d : Int) (a b : List UInt8) (l : List KV) (n : Nat) : scF.step d (a, b, l, n) r = match kread 1000001 r.s (d - 1) with
    | .error c => .error c
    | .ok x => .ok (a, b, l ++ [x], n) := by
  cases e : kread 1000001 r.s (d - 1) with
  | error c => exact Fld.and_2no (decide_eq_false (by omega)) (Fld.and_2no (decide_eq_false (by omega)) (Fld.and_1no (decide_eq_true h) (kv_no e)))
  | ok x => exact Fld.and_2ok (decide_eq_false (by omega)) (Fld.and_2ok (decide_eq_false (by omega)) (Fld.and_1ok (decide_eq_true h) (kv_ok e)))
theorem scF_4 {r : Rec} (h : r.num = 4 ∧ r.ty = 0) (d : Int) (a b : List UInt8) (l : List KV) (n : Nat) : scF.step d (a, b, l, n) r = .ok (a, b, l, r.n % 4294967296) :=
  Fld.and_2ok (decide_eq_false (by omega)) (Fld.and_2ok (decide_eq_false (by omega)) (Fld.and_2ok (decide_eq_false (by omega)) rfl))
end Go.Proofs.YtbdbmkmebeemoaaGreatDoor
namespace Go.Proofs.YtbdbmkmebeemoaaGreatDoor
open Go.RowKit

/-- a taker, with the depth that its closure holds at bd -/
def capT {σ : Type} (R : Taker σ) (bd : Nat) (D : Int) : Taker σ where
  rel st P w := ∃ P0, R.rel st P0 w ∧ ¬ P0 bd ∧ w.heap[bd]? = some (.cells #[.int .i64 D] 3 (0, 0)) ∧ P = fun k => P0 k ∨ k = bd
  lt := by
    rintro st P w ⟨P0, h1, _, h2, rfl⟩ k (hk | rfl)
    · exact R.lt _ _ _ h1 k hk
    · exact row_lt h2
  kept := by
    rintro st P w w' ⟨P0, h1, h0, h2, rfl⟩ hu
    exact ⟨P0, R.kept _ _ _ _ h1 (hu.mono fun k _ h h' => h (.inl h')), h0, (hu.block bd (row_lt h2) (fun h => h (.inr rfl))).trans h2, rfl⟩
/-- a message at block bx, with one list -/
def rowT {σ α : Type} (C : Cel α) (T T0 : TypeId) (row : σ → Value → Array Value) (ls : σ → List α) (bx : Nat) : Taker σ where
  rel st P w := ∃ v P1, w.heap[bx]? = some (.cells (row st v) T0 (0, 0)) ∧ LsAt C T (bx + 1) v (ls st) P1 w ∧ P = fun k => k = bx ∨ P1 k
  lt := by
    rintro st P w ⟨v, P1, h1, h2, rfl⟩ k (rfl | hk)
    · exact row_lt h1
    · exact (h2.lt k hk).2
  kept := by
    rintro st P w w' ⟨v, P1, h1, h2, rfl⟩ hu
    exact ⟨v, P1, (hu.block bx (row_lt h1) (fun h => h (.inl rfl))).trans h1, h2.kept (hu.mono fun k _ h h' => h (.inr h')), rfl⟩
/-- one cell of it written -/
theorem rowT_set {σ α : Type} {C : Cel α} {T T0 : TypeId} {row : σ → Value → Array Value} {ls : σ → List α} {bx : Nat} {st st' : σ} {v : Value} {P1 : Nat → Prop} {w : World} (o : Nat) (u : Value) (h1 : w.heap[bx]? = some (.cells (row st v) T0 (0, 0))) (h2 : LsAt C T (bx + 1) v (ls st) P1 w) (hr : (row st v).setIfInBounds o u = row st' v) (hl : ls st' = ls st) :
    (rowT C T T0 row ls bx).rel st' (fun k => k = bx ∨ P1 k) (w.setCell ⟨bx, o, none⟩ u) ∧ Upd (fun k => k = bx) w (w.setCell ⟨bx, o, none⟩ u) := by
  have hu := Upd.set w ⟨bx, o, none⟩ u
  refine ⟨⟨v, P1, hr ▸ row_set h1 o u, ?_, rfl⟩, hu⟩
  rw [hl]
  exact h2.kept (hu.mono fun k _ h h' => by have h : k = bx := h; have := (h2.lt k h').1; omega)
/-- one more of its list -/
theorem rowT_add {σ α : Type} {C : Cel α} {T T0 : TypeId} {row : σ → Value → Array Value} {ls : σ → List α} {bx o : Nat} {st st' : σ} {v : Value} {x : α} {P1 : Nat → Prop} {w : World} {e : Ending} {w' : World} (h : AddPost C T T0 bx o (bx + 1) (row st v) (ls st) P1 (.ok x) w e w') (hr : ∀ v', (row st v).setIfInBounds o v' = row st' v') (hl : ls st' = ls st ++ [x]) :
    e = .returned .nilIface ∧ Upd (fun k => k = bx ∨ P1 k) w w' ∧ ∃ P', (rowT C T T0 row ls bx).rel st' P' w' ∧ ∀ k, P' k → (k = bx ∨ P1 k) ∨ w.heap.size ≤ k := by
  obtain ⟨hu, he, v', P', h1, h2, h3⟩ := h
  refine ⟨he, hu, _, ⟨v', P', hr v' ▸ h1, hl ▸ h2, rfl⟩, ?_⟩
  rintro k (rfl | hk)
  · exact .inl (.inl rfl)
  · exact (h3 k hk).imp .inr id
theorem takepost_no {σ : Type} {R : Taker σ} {step : σ → Rec → Except Nat σ} {st : σ} {P : Nat → Prop} {r : Rec} {w w' : World} {v : Value} {c : Nat} (hs : step st r = .error c) (hu : Upd P w w') (he : EC w' v c) : TakePost R step st P r w (.returned v) w' := ⟨hu, by rw [hs]; exact ⟨v, rfl, he⟩⟩
theorem takepost_ok {σ : Type} {R : Taker σ} {step : σ → Rec → Except Nat σ} {st st' : σ} {P P' : Nat → Prop} {r : Rec} {w w' : World} (hs : step st r = .ok st') (hu : Upd P w w') (hr : R.rel st' P' w') (hp : ∀ k, P' k → P k ∨ w.heap.size ≤ k) : TakePost R step st P r w (.returned .nilIface) w' := ⟨hu, by rw [hs]; exact ⟨rfl, P', hr, hp⟩⟩
/-- from a taker to the one whose closure holds the depth -/
theorem capT_post {σ : Type} {R : Taker σ} {bd : Nat} {D : Int} {step : σ → Rec → Except Nat σ} {st : σ} {P0 : Nat → Prop} {r : Rec} {w : World} {e : Ending} {w' : World} (h : TakePost R step st P0 r w e w') (h0 : ¬ P0 bd) (h2 : w.heap[bd]? = some (.cells #[.int .i64 D] 3 (0, 0))) : TakePost (capT R bd D) step st (fun k => P0 k ∨ k = bd) r w e w' := by
  obtain ⟨hu, hc⟩ := h
  refine ⟨hu.mono fun k _ h => .inl h, ?_⟩
  cases hs : step st r with
  | error c => rw [hs] at hc; exact hc
  | ok st' =>
    rw [hs] at hc
    obtain ⟨he, P', h3, h4⟩ := hc
    have hb := row_lt h2
    refine ⟨he, _, ⟨P', h3, fun h => ?_, (hu.block bd hb h0).trans h2, rfl⟩, ?_⟩
    · rcases h4 bd h with h | h
      · exact h0 h
      · omega
    · rintro k (hk | rfl)
      · exact (h4 k hk).imp .inl id
      · exact .inl (.inr rfl)
/-- reading attributes, any text -/
def UKey : Prop := ∀ (Y : ByteArray) (d' : Int) (w' : World), Y.size ≤ 1000000 → -9223372036854775808 ≤ d' ∧ d' ≤ 9223372036854775807 → Calls Tryz.prog 61 #[.string Y, .int .i64 d'] w' (RdPost kcel kzero (kread 1000001 Y.data.toList d') Y.size w')
theorem u32_wrap (n : Nat) : IntKind.u32.wrap (n : Int) = ((n % 4294967296 : Nat) : Int) := by
  show ((n : Int) % 4294967296) = _
  omega
def scRow (st : List UInt8 × List UInt8 × List KV × Nat) (v : Value) : Array Value := #[strV st.1, strV st.2.1, v, .int .u32 (st.2.2.2 : Int), .string ⟨#[]⟩]
def scT (bx : Nat) : Taker (List UInt8 × List UInt8 × List KV × Nat) := rowT kcel 78 26 scRow (fun st => st.2.2.1) bx
set_option maxRecDepth 1000000 in
set_option maxHeartbeats 8000000 in
theorem sctake_any (bx : Nat) (D : Int) (r : Rec) (hU : Hid (r.num = 3 → UKey)) (st : List UInt8 × List UInt8 × List KV × Nat) (P : Nat → Prop) (w : World) (hD : -9223372036854775807 ≤ D ∧ D ≤ 9223372036854775807) (hk : scF.tk r = true) (hs : r.s.length ≤ 1000000) (hl : st.2.2.1.length ≤ 1000000) (h : Hid ((scT bx).rel st P w)) :
    Calls Tryz.prog 35 #[.pointer (some ⟨bx, 0, none⟩), recV r, .int .i64 (D - 1)] w (TakePost (scT bx) (scF.step D) st P r w) := by
  obtain ⟨v, P1, h1, h2, rfl⟩ := h.out
  obtain ⟨a, b, xs, n⟩ := st
  have H1 := Lib.hid h1
  have H2 := Lib.hid h2
  clear h h1 h2
  obtain ⟨X, hX⟩ : ∃ X : ByteArray, (⟨r.s.toArray⟩ : ByteArray) = X := ⟨_, rfl⟩
  have hXs : X.size ≤ 1000000 := by rw [← hX]; simp [ByteArray.size]; omega
  have HXD : Hid (X.data.toList = r.s) := Lib.hid (by rw [← hX])
  have HX : Hid ((⟨r.s.toArray⟩ : ByteArray) = X) := Lib.hid hX
  obtain ⟨rb, hrb⟩ : ∃ rb, w.heap.size = rb := ⟨_, rfl⟩
  obtain ⟨W0, hW0⟩ : ∃ W0, w.alloc (.cells #[.int .i64 (r.num : Int), .int .i64 (r.ty : Int), .int .u64 (r.n : Int), .string X, .string ⟨r.raw.toArray⟩] 61) = W0 := ⟨_, rfl⟩
  have HU0 : Hid (Upd (fun _ => False) w W0) := Lib.hid (by rw [← hW0]; exact Upd.alloc _ _ _)
  have HR0 : Hid (W0.heap[rb]? = some (.cells #[.int .i64 (r.num : Int), .int .i64 (r.ty : Int), .int .u64 (r.n : Int), .string X, .string ⟨r.raw.toArray⟩] 61 (0, 0))) := Lib.hid (by rw [← hW0, ← hrb]; exact heap_alloc_new _ _)
  have H10 : Hid (W0.heap[bx]? = some (.cells (scRow (a, b, xs, n) v) 26 (0, 0))) := Lib.hid ((HU0.out.block bx (row_lt H1.out) (fun h => h)).trans H1.out)
  have H20 : Hid (LsAt kcel 78 (bx + 1) v xs P1 W0) := Lib.hid (H2.out.kept (HU0.out.mono fun _ _ h => h.elim))
  have HW0 := Lib.hid hW0
  have HRB := Lib.hid hrb
  have hsz := HU0.out.size
  have hbx := row_lt H1.out
  have hn0 : W0.cell? ⟨rb, 0, none⟩ = some (.int .i64 (r.num : Int)) := row_cell HR0.out (j := 0) rfl
  rw [scF_tk, decide_eq_true_eq] at hk
  have HKN := Lib.hid hk
  unfold recV
  rw [hX]
  rw [← hW0, ← hrb] at hn0
  clear hX hW0
  by_cases h1 : r.num = 1
  · have hty : r.num = 1 ∧ r.ty = 2 := by omega
    have HSE := Lib.hid (scF_1 hty D a b xs n)
    have d1 : ((r.num : Int) == 1) = true := by rw [beq_iff_eq]; omega
    clear hty hk HKN h1
    go_enter Tryz.func35, Tryz.ntmps35
    go_wp2_with fail
    rw [HW0.out]
    go_upto_region 3 with fail
    all_goals
      obtain ⟨D0, hD0⟩ : ∃ D0, W0.drew = D0 := ⟨_, rfl⟩
      have hB0 : Below W0.heap.size W0 D0 := by rw [← hD0]; exact (Below.refl _ _).drew
      have hS : (fun w' : World => w'.heap[rb]? = some (.cells #[.int .i64 (r.num : Int), .int .i64 (r.ty : Int), .int .u64 (r.n : Int), .string X, .string ⟨r.raw.toArray⟩] 61 (0, 0))) D0 := (hB0.block _ (row_lt HR0.out)).trans HR0.out
      have hne : Nonempty {w' : World // (fun w' : World => w'.heap[rb]? = some (.cells #[.int .i64 (r.num : Int), .int .i64 (r.ty : Int), .int .u64 (r.n : Int), .string X, .string ⟨r.raw.toArray⟩] 61 (0, 0))) w'} := ⟨⟨_, hS⟩⟩
      refine wp_region_seq (S := fun w' : World => w'.heap[rb]? = some (.cells #[.int .i64 (r.num : Int), .int .i64 (r.ty : Int), .int .u64 (r.n : Int), .string X, .string ⟨r.raw.toArray⟩] 61 (0, 0))) [(0, true), (1, true), (2, true), (3, true), (4, true), (5, false), (6, true)] (by kernel_rfl) (by kernel_rfl) (by kernel_rfl) (by kernel_rfl) (by rw [hD0]; exact hS) ?_
      rw [hD0]
      iterate 4 (refine seq_take _ rfl (fun KC hK => ?_); go_simp; (first | refine hK _ ?_ | refine ⟨_, fun _ _ => rfl, hK _ ?_⟩); clear hK KC)
      refine seq_take _ rfl (fun KC hK => ?_); go_simp
      refine ⟨.string X, fun a ha => by rw [row_cell ha (j := 3) rfl]; rfl, hK _ ?_⟩
      clear hK KC
      have HT := Lib.hid (text_to (cs := scRow (a, b, xs, n) v) (T := 26) bx 0 _ X D0 hXs (Lib.hid ((hB0.block _ (row_lt H10.out)).trans H10.out)) rfl)
      refine seq_come _ rfl (fun KC hK => ?_); go_simp
      refine HT.out.mono ?_; intro e w1 hp
      unfold TextPost at hp
      rw [HXD.out] at hp
      cases hv : uvalid r.s with
      | true =>
        rw [if_pos hv] at hp
        obtain ⟨rfl, rfl⟩ := hp
        have hset := rowT_set (C := kcel) (T := 78) (row := scRow) (ls := fun st => st.2.2.1) (st := (a, b, xs, n)) (st' := (r.s, b, xs, n)) 0 (.string X) ((hB0.block _ (row_lt H10.out)).trans H10.out) (H20.out.kept ((Upd.of_new (S := fun _ => False) hB0).mono fun _ _ h => h.elim)) (by rw [← HX.out]; rfl) rfl
        have hS1 : (fun w' : World => w'.heap[rb]? = some (.cells #[.int .i64 (r.num : Int), .int .i64 (r.ty : Int), .int .u64 (r.n : Int), .string X, .string ⟨r.raw.toArray⟩] 61 (0, 0))) (D0.setCell ⟨bx, 0, none⟩ (.string X)) := (hset.2.block rb (row_lt hS) (fun e => by have e : rb = bx := e; omega)).trans hS
        have HSET := Lib.hid hset
        go_simp
        refine hK.out _ _ hS1 ?_; clear hK KC hset
        (refine seq_take _ rfl (fun KC hK => ?_); go_simp; (first | refine hK _ ?_ | refine ⟨_, fun _ _ => rfl, hK _ ?_⟩); clear hK KC)
        refine seq_done ?_
        go_wp2_with fail
        go_ret
        exact takepost_ok (HSE.out.trans (if_pos hv)) (((HU0.out.mono fun _ _ h => h.elim).trans (Upd.of_new hB0)).trans (HSET.out.2.mono fun k _ h => .inl h)) HSET.out.1 (fun k hk => .inl hk)
      | false =>
        rw [if_neg (by rw [hv]; simp)] at hp
        obtain ⟨y, rfl, hec, hb⟩ := hp
        obtain ⟨T', z, rfl⟩ := hec.iface
        have hS1 : (fun w' : World => w'.heap[rb]? = some (.cells #[.int .i64 (r.num : Int), .int .i64 (r.ty : Int), .int .u64 (r.n : Int), .string X, .string ⟨r.raw.toArray⟩] 61 (0, 0))) w1 := (hb.block _ (row_lt hS)).trans hS
        go_simp
        refine hK.out _ _ hS1 ?_; clear hK KC
        (refine seq_take _ rfl (fun KC hK => ?_); go_simp; (first | refine hK _ ?_ | refine ⟨_, fun _ _ => rfl, hK _ ?_⟩); clear hK KC)
        refine seq_done ?_
        go_wp2_with fail
        go_ret
        exact takepost_no (HSE.out.trans (if_neg (by rw [hv]; simp))) (((HU0.out.mono fun _ _ h => h.elim).trans (Upd.of_new hB0)).trans (Upd.of_new hb)) hec
  by_cases h2 : r.num = 2
  · have hty : r.num = 2 ∧ r.ty = 2 := by omega
    have HSE := Lib.hid (scF_2 hty D a b xs n)
    have d1 : ((r.num : Int) == 1) = false := by rw [beq_eq_false_iff_ne]; omega
    have d2 : ((r.num : Int) == 2) = true := by rw [beq_iff_eq]; omega
    clear hty hk HKN h2
    go_enter Tryz.func35, Tryz.ntmps35
    go_wp2_with fail
    rw [HW0.out]
    go_upto_region 5 with fail
    all_goals
      obtain ⟨D0, hD0⟩ : ∃ D0, W0.drew = D0 := ⟨_, rfl⟩
      have hB0 : Below W0.heap.size W0 D0 := by rw [← hD0]; exact (Below.refl _ _).drew
      have hS : (fun w' : World => w'.heap[rb]? = some (.cells #[.int .i64 (r.num : Int), .int .i64 (r.ty : Int), .int .u64 (r.n : Int), .string X, .string ⟨r.raw.toArray⟩] 61 (0, 0))) D0 := (hB0.block _ (row_lt HR0.out)).trans HR0.out
      have hne : Nonempty {w' : World // (fun w' : World => w'.heap[rb]? = some (.cells #[.int .i64 (r.num : Int), .int .i64 (r.ty : Int), .int .u64 (r.n : Int), .string X, .string ⟨r.raw.toArray⟩] 61 (0, 0))) w'} := ⟨⟨_, hS⟩⟩
      refine wp_region_seq (S := fun w' : World => w'.heap[rb]? = some (.cells #[.int .i64 (r.num : Int), .int .i64 (r.ty : Int), .int .u64 (r.n : Int), .string X, .string ⟨r.raw.toArray⟩] 61 (0, 0))) [(0, true), (1, true), (2, true), (3, true), (4, true), (5, false), (6, true)] (by kernel_rfl) (by kernel_rfl) (by kernel_rfl) (by kernel_rfl) (by rw [hD0]; exact hS) ?_
      rw [hD0]
      iterate 4 (refine seq_take _ rfl (fun KC hK => ?_); go_simp; (first | refine hK _ ?_ | refine ⟨_, fun _ _ => rfl, hK _ ?_⟩); clear hK KC)
      refine seq_take _ rfl (fun KC hK => ?_); go_simp
      refine ⟨.string X, fun a ha => by rw [row_cell ha (j := 3) rfl]; rfl, hK _ ?_⟩
      clear hK KC
      have HT := Lib.hid (text_to (cs := scRow (a, b, xs, n) v) (T := 26) bx 1 _ X D0 hXs (Lib.hid ((hB0.block _ (row_lt H10.out)).trans H10.out)) rfl)
      refine seq_come _ rfl (fun KC hK => ?_); go_simp
      refine HT.out.mono ?_; intro e w1 hp
      unfold TextPost at hp
      rw [HXD.out] at hp
      cases hv : uvalid r.s with
      | true =>
        rw [if_pos hv] at hp
        obtain ⟨rfl, rfl⟩ := hp
        have hset := rowT_set (C := kcel) (T := 78) (row := scRow) (ls := fun st => st.2.2.1) (st := (a, b, xs, n)) (st' := (a, r.s, xs, n)) 1 (.string X) ((hB0.block _ (row_lt H10.out)).trans H10.out) (H20.out.kept ((Upd.of_new (S := fun _ => False) hB0).mono fun _ _ h => h.elim)) (by rw [← HX.out]; rfl) rfl
        have hS1 : (fun w' : World => w'.heap[rb]? = some (.cells #[.int .i64 (r.num : Int), .int .i64 (r.ty : Int), .int .u64 (r.n : Int), .string X, .string ⟨r.raw.toArray⟩] 61 (0, 0))) (D0.setCell ⟨bx, 1, none⟩ (.string X)) := (hset.2.block rb (row_lt hS) (fun e => by have e : rb = bx := e; omega)).trans hS
        have HSET := Lib.hid hset
        go_simp
        refine hK.out _ _ hS1 ?_; clear hK KC hset
        (refine seq_take _ rfl (fun KC hK => ?_); go_simp; (first | refine hK _ ?_ | refine ⟨_, fun _ _ => rfl, hK _ ?_⟩); clear hK KC)
        refine seq_done ?_
        go_wp2_with fail
        go_ret
        exact takepost_ok (HSE.out.trans (if_pos hv)) (((HU0.out.mono fun _ _ h => h.elim).trans (Upd.of_new hB0)).trans (HSET.out.2.mono fun k _ h => .inl h)) HSET.out.1 (fun k hk => .inl hk)
      | false =>
        rw [if_neg (by rw [hv]; simp)] at hp
        obtain ⟨y, rfl, hec, hb⟩ := hp
        obtain ⟨T', z, rfl⟩ := hec.iface
        have hS1 : (fun w' : World => w'.heap[rb]? = some (.cells #[.int .i64 (r.num : Int), .int .i64 (r.ty : Int), .int .u64 (r.n : Int), .string X, .string ⟨r.raw.toArray⟩] 61 (0, 0))) w1 := (hb.block _ (row_lt hS)).trans hS
        go_simp
        refine hK.out _ _ hS1 ?_; clear hK KC
        (refine seq_take _ rfl (fun KC hK => ?_); go_simp; (first | refine hK _ ?_ | refine ⟨_, fun _ _ => rfl, hK _ ?_⟩); clear hK KC)
        refine seq_done ?_
        go_wp2_with fail
        go_ret
        exact takepost_no (HSE.out.trans (if_neg (by rw [hv]; simp))) (((HU0.out.mono fun _ _ h => h.elim).trans (Upd.of_new hB0)).trans (Upd.of_new hb)) hec
  by_cases h3 : r.num = 3
  · have hty : r.num = 3 ∧ r.ty = 2 := by omega
    have HSE := Lib.hid (scF_3 hty D a b xs n)
    have HUK := Lib.hid (hU.out hty.1)
    have d1 : ((r.num : Int) == 1) = false := by rw [beq_eq_false_iff_ne]; omega
    have d2 : ((r.num : Int) == 2) = false := by rw [beq_eq_false_iff_ne]; omega
    have d3 : ((r.num : Int) == 3) = true := by rw [beq_iff_eq]; omega
    clear hty hk HKN h3
    go_enter Tryz.func35, Tryz.ntmps35
    go_wp2_with fail
    rw [HW0.out]
    go_upto_region 7 with fail
    all_goals
      obtain ⟨D0, hD0⟩ : ∃ D0, W0.drew = D0 := ⟨_, rfl⟩
      have hB0 : Below W0.heap.size W0 D0 := by rw [← hD0]; exact (Below.refl _ _).drew
      have hS : (fun w' : World => w'.heap[rb]? = some (.cells #[.int .i64 (r.num : Int), .int .i64 (r.ty : Int), .int .u64 (r.n : Int), .string X, .string ⟨r.raw.toArray⟩] 61 (0, 0))) D0 := (hB0.block _ (row_lt HR0.out)).trans HR0.out
      have hne : Nonempty {w' : World // (fun w' : World => w'.heap[rb]? = some (.cells #[.int .i64 (r.num : Int), .int .i64 (r.ty : Int), .int .u64 (r.n : Int), .string X, .string ⟨r.raw.toArray⟩] 61 (0, 0))) w'} := ⟨⟨_, hS⟩⟩
      refine wp_region_seq (S := fun w' : World => w'.heap[rb]? = some (.cells #[.int .i64 (r.num : Int), .int .i64 (r.ty : Int), .int .u64 (r.n : Int), .string X, .string ⟨r.raw.toArray⟩] 61 (0, 0))) [(0, true), (1, true), (2, true), (3, true), (4, true), (5, true), (6, false), (7, true)] (by kernel_rfl) (by kernel_rfl) (by kernel_rfl) (by kernel_rfl) (by rw [hD0]; exact hS) ?_
      rw [hD0]
      iterate 4 (refine seq_take _ rfl (fun KC hK => ?_); go_simp; (first | refine hK _ ?_ | refine ⟨_, fun _ _ => rfl, hK _ ?_⟩); clear hK KC)
      refine seq_take _ rfl (fun KC hK => ?_); go_simp
      refine ⟨.string X, fun a ha => by rw [row_cell ha (j := 3) rfl]; rfl, hK _ ?_⟩
      clear hK KC
      (refine seq_take _ rfl (fun KC hK => ?_); go_simp; (first | refine hK _ ?_ | refine ⟨_, fun _ _ => rfl, hK _ ?_⟩); clear hK KC)
      have HA := Lib.hid (addk_any bx 2 (bx + 1) (scRow (a, b, xs, n) v) 26 v xs P1 61 X (D - 1) (kread 1000001 r.s (D - 1)) D0 (enters_of Tryz.func61 (by kernel_rfl) rfl) (Lib.hid ((hB0.block _ (row_lt H10.out)).trans H10.out)) rfl ⟨by omega, by have := hB0.size; omega⟩ (Lib.hid (H20.out.kept ((Upd.of_new (S := fun _ => False) hB0).mono fun _ _ h => h.elim))) hl (Lib.hid (fun w' => by have := HUK.out X (D - 1) w' hXs (by omega); rwa [HXD.out] at this)))
      refine seq_come _ rfl (fun KC hK => ?_); go_simp
      refine HA.out.mono ?_; intro e w1 hpost
      have hS1 : (fun w' : World => w'.heap[rb]? = some (.cells #[.int .i64 (r.num : Int), .int .i64 (r.ty : Int), .int .u64 (r.n : Int), .string X, .string ⟨r.raw.toArray⟩] 61 (0, 0))) w1 := (hpost.1.block rb (row_lt hS) (fun e => by
        rcases e with e | e
        · omega
        · have := (H2.out.lt rb e).2; have := HRB.out; omega)).trans hS
      cases hrd : kread 1000001 r.s (D - 1) with
      | error c =>
        rw [hrd] at hpost HSE
        obtain ⟨hu1, y, rfl, hec⟩ := hpost
        obtain ⟨T', z, rfl⟩ := hec.iface
        go_simp
        refine hK.out _ _ hS1 ?_; clear hK KC
        (refine seq_take _ rfl (fun KC hK => ?_); go_simp; (first | refine hK _ ?_ | refine ⟨_, fun _ _ => rfl, hK _ ?_⟩); clear hK KC)
        refine seq_done ?_
        go_wp2_with fail
        go_ret
        exact takepost_no HSE.out (((HU0.out.mono fun _ _ h => h.elim).trans (Upd.of_new hB0)).trans hu1) hec
      | ok x =>
        rw [hrd] at hpost HSE
        obtain ⟨rfl, hu, P', hr, hp⟩ := rowT_add (ls := fun st : List UInt8 × List UInt8 × List KV × Nat => st.2.2.1) (st := (a, b, xs, n)) (st' := (a, b, xs ++ [x], n)) hpost (fun v' => rfl) rfl
        go_simp
        refine hK.out _ _ hS1 ?_; clear hK KC
        (refine seq_take _ rfl (fun KC hK => ?_); go_simp; (first | refine hK _ ?_ | refine ⟨_, fun _ _ => rfl, hK _ ?_⟩); clear hK KC)
        refine seq_done ?_
        have HU := Lib.hid hu
        have HRL := Lib.hid hr
        have HP := Lib.hid hp
        clear hu hr hp hpost hrd
        go_wp2_with fail
        go_ret
        exact takepost_ok HSE.out (((HU0.out.mono fun _ _ h => h.elim).trans (Upd.of_new hB0)).trans HU.out) HRL.out (fun k hk => (HP.out k hk).imp id (fun h => Nat.le_trans (Nat.le_trans hsz hB0.size) h))
  have hty : r.num = 4 ∧ r.ty = 0 := by omega
  have HSE := Lib.hid (scF_4 hty D a b xs n)
  have d1 : ((r.num : Int) == 1) = false := by rw [beq_eq_false_iff_ne]; omega
  have d2 : ((r.num : Int) == 2) = false := by rw [beq_eq_false_iff_ne]; omega
  have d3 : ((r.num : Int) == 3) = false := by rw [beq_eq_false_iff_ne]; omega
  have d4 : ((r.num : Int) == 4) = true := by rw [beq_iff_eq]; omega
  have q1 := u32_wrap r.n
  have hc3 : W0.cell? ⟨bx, 3, none⟩ = some (.int .u32 (n : Int)) := row_cell H10.out (j := 3) rfl
  have hf3 : W0.frozen? ⟨bx, 3, none⟩ = false := row_thaw H10.out 3
  have HP := Lib.hid (rowT_set (C := kcel) (T := 78) (row := scRow) (ls := fun st : List UInt8 × List UInt8 × List KV × Nat => st.2.2.1) (st := (a, b, xs, n)) (st' := (a, b, xs, r.n % 4294967296)) 3 (.int .u32 ((r.n : Int) % 4294967296)) H10.out H20.out (by unfold scRow; rw [show ((r.n : Int) % 4294967296) = ((r.n % 4294967296 : Nat) : Int) by omega]; rfl) rfl)
  rw [← HW0.out] at hc3 hf3
  clear hty hk HKN
  go_enter Tryz.func35, Tryz.ntmps35
  go_wp2_with fail
  rw [HW0.out]
  go_ret
  exact takepost_ok HSE.out ((HU0.out.mono fun _ _ h => h.elim).trans (HP.out.2.mono fun k _ h => .inl h)) HP.out.1 (fun k hk => .inl hk)
set_option maxRecDepth 1000000 in
set_option maxHeartbeats 8000000 in
theorem scclo_any (bx bd : Nat) (D : Int) (r : Rec) (hU : Hid (r.num = 3 → UKey)) (st : List UInt8 × List UInt8 × List KV × Nat) (P : Nat → Prop) (w : World) (hD : -9223372036854775807 ≤ D ∧ D ≤ 9223372036854775807) (hk : scF.tk r = true) (hs : r.s.length ≤ 1000000) (hl : st.2.2.1.length ≤ 1000000) (h : Hid ((capT (scT bx) bd D).rel st P w)) :
    Calls Tryz.prog 33 #[recV r, .pointer (some ⟨bx, 0, none⟩), .pointer (some ⟨bd, 0, none⟩)] w (TakePost (capT (scT bx) bd D) (scF.step D) st P r w) := by
  obtain ⟨P0, hr, hn, hb, rfl⟩ := h.out
  refine Calls.mono ?_ (fun e w' hp => capT_post hp hn hb)
  have HR := Lib.hid hr
  have HB := Lib.hid hb
  clear h hr hb
  obtain ⟨X, hX⟩ : ∃ X : ByteArray, (⟨r.s.toArray⟩ : ByteArray) = X := ⟨_, rfl⟩
  have HX : Hid ((⟨r.s.toArray⟩ : ByteArray) = X) := Lib.hid hX
  obtain ⟨rb, hrb⟩ : ∃ rb, w.heap.size = rb := ⟨_, rfl⟩
  obtain ⟨W0, hW0⟩ : ∃ W0, w.alloc (.cells #[.int .i64 (r.num : Int), .int .i64 (r.ty : Int), .int .u64 (r.n : Int), .string X, .string ⟨r.raw.toArray⟩] 61) = W0 := ⟨_, rfl⟩
  have HB0 : Hid (Below w.heap.size w W0) := Lib.hid (by rw [← hW0]; exact below_new _ _)
  have HR0 : Hid (W0.heap[rb]? = some (.cells #[.int .i64 (r.num : Int), .int .i64 (r.ty : Int), .int .u64 (r.n : Int), .string X, .string ⟨r.raw.toArray⟩] 61 (0, 0))) := Lib.hid (by rw [← hW0, ← hrb]; exact heap_alloc_new _ _)
  have HW0 := Lib.hid hW0
  have HRB := Lib.hid hrb
  have q1 : IntKind.i64.wrap (D - 1) = D - 1 := IntWalk.i64_in _ (by omega)
  unfold recV
  rw [hX]
  clear hX hW0
  go_enter Tryz.func33, Tryz.ntmps33
  go_wp2_with fail
  rw [HW0.out]
  go_upto_region 1 with fail
  all_goals
    obtain ⟨D0, hD0⟩ : ∃ D0, W0.drew = D0 := ⟨_, rfl⟩
    have hB0 : Below W0.heap.size W0 D0 := by rw [← hD0]; exact (Below.refl _ _).drew
    have HBD := Lib.hid (below_step HB0.out hB0)
    have hS : R2 rb #[.int .i64 (r.num : Int), .int .i64 (r.ty : Int), .int .u64 (r.n : Int), .string X, .string ⟨r.raw.toArray⟩] 61 bd #[.int .i64 D] 3 D0 := ⟨(hB0.block _ (row_lt HR0.out)).trans HR0.out, (HBD.out.block _ (row_lt HB.out)).trans HB.out⟩
    have hne : Nonempty {w' : World // R2 rb #[.int .i64 (r.num : Int), .int .i64 (r.ty : Int), .int .u64 (r.n : Int), .string X, .string ⟨r.raw.toArray⟩] 61 bd #[.int .i64 D] 3 w'} := ⟨⟨_, hS⟩⟩
    refine wp_region_seq (S := R2 rb #[.int .i64 (r.num : Int), .int .i64 (r.ty : Int), .int .u64 (r.n : Int), .string X, .string ⟨r.raw.toArray⟩] 61 bd #[.int .i64 D] 3) [(0, true), (1, true), (2, true), (3, true), (4, true), (5, false), (6, false), (7, true)] (by kernel_rfl) (by kernel_rfl) (by kernel_rfl) (by kernel_rfl) (by rw [hD0]; exact hS) ?_
    rw [hD0]
    (refine seq_take _ rfl (fun KC hK => ?_); go_simp; (first | refine hK _ ?_ | refine ⟨_, fun _ _ => rfl, hK _ ?_⟩); clear hK KC)
    refine seq_take _ rfl (fun KC hK => ?_); go_simp
    refine ⟨.int .i64 (r.num : Int), fun a ha => by rw [row_cell ha.1 (j := 0) rfl]; rfl, hK _ ?_⟩
    clear hK KC
    refine seq_take _ rfl (fun KC hK => ?_); go_simp
    refine ⟨.agg #[.int .i64 (r.num : Int), .int .i64 (r.ty : Int), .int .u64 (r.n : Int), .string X, .string ⟨r.raw.toArray⟩], fun a ha => by (have e0 := row_cell ha.1 (j := 0) rfl; have e1 := row_cell ha.1 (j := 1) rfl; have e2 := row_cell ha.1 (j := 2) rfl; have e3 := row_cell ha.1 (j := 3) rfl; have e4 := row_cell ha.1 (j := 4) rfl); simp only [e0, e1, e2, e3, e4, Result.andThen]; rfl, hK _ ?_⟩
    clear hK KC
    refine seq_take _ rfl (fun KC hK => ?_); go_simp
    refine ⟨.int .i64 D, fun a ha => by rw [row_cell ha.2 (j := 0) rfl]; rfl, hK _ ?_⟩
    clear hK KC
    (refine seq_take _ rfl (fun KC hK => ?_); go_simp; (first | refine hK _ ?_ | refine ⟨_, fun _ _ => rfl, hK _ ?_⟩); clear hK KC)
    have HT := Lib.hid (sctake_any bx D r hU st P0 D0 hD hk hs hl (Lib.hid ((scT bx).kept _ _ _ _ HR.out (Upd.of_new HBD.out))))
    unfold recV at HT
    rw [HX.out] at HT
    refine seq_come _ rfl (fun KC hK => ?_); go_simp
    refine HT.out.mono ?_; rintro e w1 ⟨hu, hcase⟩
    have hlt := (scT bx).lt _ _ _ HR.out
    have hS1 : R2 rb #[.int .i64 (r.num : Int), .int .i64 (r.ty : Int), .int .u64 (r.n : Int), .string X, .string ⟨r.raw.toArray⟩] 61 bd #[.int .i64 D] 3 w1 := ⟨(hu.block rb (row_lt hS.1) (fun e => by have := hlt rb e; have := HRB.out; omega)).trans hS.1, (hu.block bd (row_lt hS.2) hn).trans hS.2⟩
    cases hst : scF.step D st r with
    | error c =>
      rw [hst] at hcase
      obtain ⟨y, rfl, hec⟩ := hcase
      obtain ⟨T', z, rfl⟩ := hec.iface
      have HEC := Lib.hid hec
      have HU := Lib.hid hu
      clear hec hu hlt
      go_simp
      refine hK.out _ _ hS1 ?_; clear hK KC
      refine seq_come _ rfl (fun KC hK => ?_); go_simp
      refine (in_any _ _ _ _).mono ?_; rintro e w' ⟨rfl, rfl⟩
      go_simp
      refine hK.out _ _ (hS1.below (below_new _ _)) ?_; clear hK KC
      (refine seq_take _ rfl (fun KC hK => ?_); go_simp; (first | refine hK _ ?_ | refine ⟨_, fun _ _ => rfl, hK _ ?_⟩); clear hK KC)
      refine seq_done ?_
      go_wp2_with fail
      go_ret
      exact takepost_no hst (((Upd.of_new HBD.out).trans HU.out).trans (Upd.alloc _ _ _)) (ec_field HEC.out)
    | ok st' =>
      rw [hst] at hcase
      obtain ⟨rfl, P', hr, hp⟩ := hcase
      have HRL := Lib.hid hr
      have HP := Lib.hid hp
      have HU := Lib.hid hu
      clear hr hp hu hlt
      go_simp
      refine hK.out _ _ hS1 ?_; clear hK KC
      refine seq_come _ rfl (fun KC hK => ?_); go_simp
      refine (in_nil _ _).mono ?_; rintro e w' ⟨rfl, rfl⟩
      go_simp
      refine hK.out _ _ hS1 ?_; clear hK KC
      (refine seq_take _ rfl (fun KC hK => ?_); go_simp; (first | refine hK _ ?_ | refine ⟨_, fun _ _ => rfl, hK _ ?_⟩); clear hK KC)
      refine seq_done ?_
      go_wp2_with fail
      go_ret
      exact takepost_ok hst ((Upd.of_new HBD.out).trans HU.out) HRL.out (fun k hk => (HP.out k hk).imp id (fun h => Nat.le_trans HBD.out.size h))
end Go.Proofs.YtbdbmkmebeemoaaGreatDoor
namespace Go.Proofs.YtbdbmkmebeemoaaGreatDoor
open Go.RowKit

theorem kv_len {num : Nat} {d : Int} {l : List KV} {t : Nat} (h : (listF num kvS).inv d l t) : l.length * 40 ≤ 51 * t := by
  have h1 : lsum (l.map kvS.wt) ≤ 51 * t := h.2
  have h2 := kvs_wt num l
  have h2 : lsum (l.map kvS.wt) = ksw l := h2
  have := ksw_len l
  omega
theorem tlen_le (tk : Rec → Bool) (rs : List Rec) : tlen tk rs ≤ (rs.flatMap Rec.raw).length := by have := tlen_munk tk rs; omega
set_option maxRecDepth 1000000 in
set_option maxHeartbeats 8000000 in
theorem mread_neg (FT FK : Nat) (caps : Array Value) (s : ByteArray) (d : Int) (w : World) (hd : d < 0) :
    Calls Tryz.prog 31 #[.string s, .int .i64 d, .func (.func FT) #[] #[], .func (.func FK) #[] caps] w fun e w' => ∃ v, e = .returned (.tuple #[.string ⟨#[]⟩, v]) ∧ Below w.heap.size w w' ∧ EW w' v 0 6 := by
  have d1 : decide (d < 0) = true := decide_eq_true hd
  clear hd
  go_enter Tryz.func31, Tryz.ntmps31
  go_wp2_with fail
  refine (at_any _ _ _ _).mono ?_; rintro e w' ⟨rfl, rfl⟩
  go_wp2_with fail
  go_ret2
  exact ⟨_, rfl, below_new _ _, ew_at ⟨[], rfl⟩⟩
set_option maxRecDepth 100000 in
set_option maxHeartbeats 2000000 in
theorem rstakes_any (r : Rec) (w : World) : Calls Tryz.prog 58 #[.int .i64 (r.num : Int), .int .i64 (r.ty : Int)] w fun e w' => e = .returned (.bool (rsF.tk r)) ∧ w = w' := by
  obtain ⟨num, ty, n, s, raw⟩ := r
  have hq := rsF_tk ⟨num, ty, n, s, raw⟩
  dsimp only at hq
  obtain ⟨q, hqe⟩ : ∃ q, rsF.tk ⟨num, ty, n, s, raw⟩ = q := ⟨_, rfl⟩
  rw [hqe] at hq ⊢
  clear hqe
  by_cases h1 : num = 1
  · subst h1
    have hb : Hid (q = ((ty : Int) == (2 : Int))) := Lib.hid (by rw [show ((2 : Int)) = ((2 : Nat) : Int) from rfl, ibeq, hq]; exact decide_eq_decide.2 (by omega))
    clear hq
    go_enter Tryz.func58, Tryz.ntmps58
    go_wp2_with fail
    go_ret
    exact ⟨by rw [hb.out]; rfl, rfl⟩
  by_cases h2 : num = 2
  · subst h2
    have hb : Hid (q = ((ty : Int) == (0 : Int))) := Lib.hid (by rw [show ((0 : Int)) = ((0 : Nat) : Int) from rfl, ibeq, hq]; exact decide_eq_decide.2 (by omega))
    clear hq
    go_enter Tryz.func58, Tryz.ntmps58
    go_wp2_with fail
    go_ret
    exact ⟨by rw [hb.out]; rfl, rfl⟩
  have d1 : ((num : Int) == (1 : Int)) = false := by rw [beq_eq_false_iff_ne]; omega
  have d2 : ((num : Int) == (2 : Int)) = false := by rw [beq_eq_false_iff_ne]; omega
  have hb : Hid (q = false) := Lib.hid (by rw [hq]; exact decide_eq_false (by omega))
  clear h1 h2 hq
  go_enter Tryz.func58, Tryz.ntmps58
  go_wp2_with fail
  go_ret
  exact ⟨by rw [hb.out]; rfl, rfl⟩
/-- in memory, with what is unknown behind it -/
def RsRel (w : World) (P : Nat → Prop) (x : (List KV × Nat) × List UInt8) (cs : List Value) : Prop := ∃ lo lc, cs = [.slice lo x.1.1.length lc, .int .u32 (x.1.2 : Int), strV x.2] ∧ KRels w P x.1.1 lo 0
set_option maxRecDepth 100000 in
set_option maxHeartbeats 2000000 in
theorem sctakes_any (r : Rec) (w : World) : Calls Tryz.prog 32 #[.int .i64 (r.num : Int), .int .i64 (r.ty : Int)] w fun e w' => e = .returned (.bool (scF.tk r)) ∧ w = w' := by
  obtain ⟨num, ty, n, s, raw⟩ := r
  have hq := scF_tk ⟨num, ty, n, s, raw⟩
  dsimp only at hq
  obtain ⟨q, hqe⟩ : ∃ q, scF.tk ⟨num, ty, n, s, raw⟩ = q := ⟨_, rfl⟩
  rw [hqe] at hq ⊢
  clear hqe
  by_cases h1 : num = 1
  · subst h1
    have hb : Hid (q = ((ty : Int) == (2 : Int))) := Lib.hid (by rw [show ((2 : Int)) = ((2 : Nat) : Int) from rfl, ibeq, hq]; exact decide_eq_decide.2 (by omega))
    clear hq
    go_enter Tryz.func32, Tryz.ntmps32
    go_wp2_with fail
    go_ret
    exact ⟨by rw [hb.out]; rfl, rfl⟩
  by_cases h2 : num = 2
  · subst h2
    have hb : Hid (q = ((ty : Int) == (2 : Int))) := Lib.hid (by rw [show ((2 : Int)) = ((2 : Nat) : Int) from rfl, ibeq, hq]; exact decide_eq_decide.2 (by omega))
    clear hq
    go_enter Tryz.func32, Tryz.ntmps32
    go_wp2_with fail
    go_ret
    exact ⟨by rw [hb.out]; rfl, rfl⟩
  by_cases h3 : num = 3
  · subst h3
    have hb : Hid (q = ((ty : Int) == (2 : Int))) := Lib.hid (by rw [show ((2 : Int)) = ((2 : Nat) : Int) from rfl, ibeq, hq]; exact decide_eq_decide.2 (by omega))
    clear hq
    go_enter Tryz.func32, Tryz.ntmps32
    go_wp2_with fail
    go_ret
    exact ⟨by rw [hb.out]; rfl, rfl⟩
  by_cases h4 : num = 4
  · subst h4
    have hb : Hid (q = ((ty : Int) == (0 : Int))) := Lib.hid (by rw [show ((0 : Int)) = ((0 : Nat) : Int) from rfl, ibeq, hq]; exact decide_eq_decide.2 (by omega))
    clear hq
    go_enter Tryz.func32, Tryz.ntmps32
    go_wp2_with fail
    go_ret
    exact ⟨by rw [hb.out]; rfl, rfl⟩
  have d1 : ((num : Int) == (1 : Int)) = false := by rw [beq_eq_false_iff_ne]; omega
  have d2 : ((num : Int) == (2 : Int)) = false := by rw [beq_eq_false_iff_ne]; omega
  have d3 : ((num : Int) == (3 : Int)) = false := by rw [beq_eq_false_iff_ne]; omega
  have d4 : ((num : Int) == (4 : Int)) = false := by rw [beq_eq_false_iff_ne]; omega
  have hb : Hid (q = false) := Lib.hid (by rw [hq]; exact decide_eq_false (by omega))
  clear h1 h2 h3 h4 hq
  go_enter Tryz.func32, Tryz.ntmps32
  go_wp2_with fail
  go_ret
  exact ⟨by rw [hb.out]; rfl, rfl⟩
theorem sc_set {w : World} {g : Nat} {T : TypeId} {z0 z1 z2 z3 z4 : Value} (h : w.heap[g]? = some (.cells #[z0, z1, z2, z3, z4] T (0, 0))) (c0 c1 c2 c3 c4 : Value) : (((((w.setCell ⟨g, 0, none⟩ c0).setCell ⟨g, 1, none⟩ c1).setCell ⟨g, 2, none⟩ c2).setCell ⟨g, 3, none⟩ c3).setCell ⟨g, 4, none⟩ c4).heap[g]? = some (.cells #[c0, c1, c2, c3, c4] T (0, 0)) ∧ Upd (fun k => k = g) w (((((w.setCell ⟨g, 0, none⟩ c0).setCell ⟨g, 1, none⟩ c1).setCell ⟨g, 2, none⟩ c2).setCell ⟨g, 3, none⟩ c3).setCell ⟨g, 4, none⟩ c4) := by
  have r0 := row_set h 0 c0
  have r1 := row_set r0 1 c1
  have r2 := row_set r1 2 c2
  have r3 := row_set r2 3 c3
  have r4 := row_set r3 4 c4
  exact ⟨r4, ((((Upd.set w ⟨g, 0, none⟩ c0).trans (Upd.set _ ⟨g, 1, none⟩ c1)).trans (Upd.set _ ⟨g, 2, none⟩ c2)).trans (Upd.set _ ⟨g, 3, none⟩ c3)).trans (Upd.set _ ⟨g, 4, none⟩ c4)⟩
/-- in memory, with what is unknown behind it -/
def ScRel (w : World) (P : Nat → Prop) (x : (List UInt8 × List UInt8 × List KV × Nat) × List UInt8) (cs : List Value) : Prop := ∃ lo lc, cs = [strV x.1.1, strV x.1.2.1, .slice lo x.1.2.2.1.length lc, .int .u32 (x.1.2.2.2 : Int), strV x.2] ∧ KRels w P x.1.2.2.1 lo 0
def scCel : Cel ((List UInt8 × List UInt8 × List KV × Nat) × List UInt8) where
  R := ScRel
  size := 5
  len := by rintro w P x cs ⟨lo, lc, rfl, _⟩; rfl
  upd := by rintro w w' S P Q x cs hu hs hq ⟨lo, lc, h1, h2⟩; exact ⟨lo, lc, h1, KRels.upd hu hs hq _ _ _ h2⟩
  lt := by rintro w P x cs ⟨lo, lc, h1, h2⟩; exact ⟨lo, lc, h1, KRels.lt _ _ _ h2⟩
def sczero : Array Value := #[.string ⟨#[]⟩, .string ⟨#[]⟩, .slice none 0 0, .int .u32 0, .string ⟨#[]⟩]
def scrd (l : List UInt8) (d : Int) : Except Nat ((List UInt8 × List UInt8 × List KV × Nat) × List UInt8) := mread (σ := List UInt8 × List UInt8 × List KV × Nat) scF.tk (scF.step d) scF.z l d
theorem sc_len {d : Int} {pre : List Rec} {st : List UInt8 × List UInt8 × List KV × Nat} (h1 : ∀ x ∈ pre, IsRec d x) (h2 : mfold scF.tk (scF.step d) scF.z pre = .ok st) (h3 : (pre.flatMap Rec.raw).length ≤ 500000) : st.2.2.1.length ≤ 1000000 := by
  have hi := mfold_tlen (d := d) 1000000 (scF.inv d) (scF_ok.go d) pre scF.z st 0 h1 (scF_ok.start d) (by have := tlen_le scF.tk pre; omega) h2
  rw [Nat.zero_add] at hi
  have := tlen_le scF.tk pre
  obtain ⟨t1, t2, ht, _, u1, u2, hu, _, v1, v2, hv, i1, _⟩ := hi
  have := kv_len i1
  omega
theorem load_sc {w : World} {g : Nat} {cs : Array Value} (hg : w.heap[g]? = some (.cells cs 26 (0, 0))) (hc : cs.size = 5) : (loadVar 26 ⟨g, 0, none⟩).run Tryz.prog w = .ok (.agg cs) w :=
  run_loadVar_row w g 26 26 cs (0, 0) _ hg Tryz.underlying26 rfl (by rw [hc]; kernel_rfl)
set_option maxRecDepth 1000000 in
set_option maxHeartbeats 8000000 in
theorem unsc_if (X : ByteArray) (d : Int) (hU : Hid (∀ r : Rec, (∀ rs, wall X.data.toList d = .ok rs → r ∈ rs) → r.num = 3 → UKey)) (w : World) (hX : X.size ≤ 500000) (hd : -9223372036854775808 ≤ d ∧ d ≤ 9223372036854775807) :
    Calls Tryz.prog 10 #[.string X, .int .i64 d] w (RdPost scCel sczero (scrd X.data.toList d) X.size w) := by
  have HE1 := enters_of Tryz.func32 (by kernel_rfl) rfl
  have HE2 := enters_of Tryz.func33 (by kernel_rfl) rfl
  obtain ⟨g, hg⟩ : ∃ g, w.heap.size = g := ⟨_, rfl⟩
  obtain ⟨W0, hW0⟩ : ∃ W0, ((w.alloc (.cells #[.int .i64 d] 3)).alloc (.cells #[.string ⟨#[]⟩, .string ⟨#[]⟩, .slice none 0 0, .int .u32 0, .string ⟨#[]⟩] 26)).alloc (.cells #[.string ⟨#[]⟩, .string ⟨#[]⟩, .slice none 0 0, .int .u32 0, .string ⟨#[]⟩] 26) = W0 := ⟨_, rfl⟩
  have HB0 : Hid (Below w.heap.size w W0) := Lib.hid (by rw [← hW0]; exact below_step (below_step (below_new _ _) (below_new _ _)) (below_new _ _))
  have h3 := new_three_c hg (.cells #[.int .i64 d] 3) (.cells #[.string ⟨#[]⟩, .string ⟨#[]⟩, .slice none 0 0, .int .u32 0, .string ⟨#[]⟩] 26) (.cells #[.string ⟨#[]⟩, .string ⟨#[]⟩, .slice none 0 0, .int .u32 0, .string ⟨#[]⟩] 26)
  rw [hW0] at h3
  have HR0 := Lib.hid h3.2.1
  have hcd : W0.cell? ⟨g, 0, none⟩ = some (.int .i64 d) := row_cell h3.1 (j := 0) rfl
  have htk : (capT (scT (g + 2)) g d).rel scF.z (fun k => (k = g + 2 ∨ ((Value.slice none 0 0).ownBlock = some k ∨ False)) ∨ k = g) W0 := ⟨_, ⟨.slice none 0 0, _, h3.2.2, LsAt.nil _ _ _ _, rfl⟩, by simp [Value.ownBlock], h3.1, rfl⟩
  have HRD : Hid (Calls Tryz.prog 31 #[.string X, .int .i64 d, .func (.func 32) #[] #[], .func (.func 33) #[] #[.pointer (some ⟨g + 2, 0, none⟩), .pointer (some ⟨g, 0, none⟩)]] W0 (ReadPost (capT (scT (g + 2)) g d) scF.tk (scF.step d) scF.z (fun k => (k = g + 2 ∨ ((Value.slice none 0 0).ownBlock = some k ∨ False)) ∨ k = g) X d W0)) := Lib.hid (by
    by_cases h0 : d < 0
    · refine (mread_neg _ _ _ X d W0 h0).mono ?_
      rintro e w' ⟨v, rfl, hb, he⟩
      refine ⟨Upd.of_new hb, ?_⟩
      have e6 : mread (σ := List UInt8 × List UInt8 × List KV × Nat) scF.tk (scF.step d) scF.z X.data.toList d = .error 6 := by unfold mread; rw [if_pos h0]
      rw [e6]
      exact ⟨v, 0, rfl, Nat.zero_le _, he⟩
    · exact mread_any (capT (scT (g + 2)) g d) scF.tk (scF.step d) 32 33 #[.pointer (some ⟨g + 2, 0, none⟩), .pointer (some ⟨g, 0, none⟩)] scF.z X d W0 (by omega) HE1 HE2 (fun r w _ => sctakes_any r w) (fun r st P w hk hr hraw hmem hpre h => scclo_any (g + 2) g d r (Lib.hid (fun h1 => hU.out r hmem h1)) st P w (by omega) hk (by have := isrec_s hr; omega) (by
        obtain ⟨pre, h1, h2, h3⟩ := hpre
        exact sc_len h1 h2 (by omega)) (Lib.hid h)) _ htk)
  have HW0 := Lib.hid hW0
  have HGG := Lib.hid hg
  clear hW0 h3 htk HE1 HE2
  go_enter Tryz.func10, Tryz.ntmps10
  go_wp2_with fail
  rw [HW0.out]
  go_wp2_with fail
  refine HRD.out.mono ?_; intro e w1 hpost
  obtain ⟨hu, hcase⟩ := hpost
  have hu1 : Upd (fun k => k = g + 2 ∨ k = g) W0 w1 := hu.mono (fun k _ h => by
    rcases h with (h | h | h) | h
    · exact .inl h
    · simp [Value.ownBlock] at h
    · exact h.elim
    · exact .inr h)
  have HR1 : Hid (w1.heap[g + 1]? = some (.cells #[.string ⟨#[]⟩, .string ⟨#[]⟩, .slice none 0 0, .int .u32 0, .string ⟨#[]⟩] 26 (0, 0))) := Lib.hid ((hu1.block (g + 1) (row_lt HR0.out) (by omega)).trans HR0.out)
  have HB1 : Hid (Below w.heap.size w w1) := Lib.hid (HB0.out.trans (hu1.below (by have := HB0.out.size; omega) (fun k _ h => by omega)))
  clear hu hu1 hcd HRD
  have hz0 : w1.cell? ⟨g + 1, 0, none⟩ = some (.string ⟨#[]⟩) := row_cell HR1.out (j := 0) rfl
  have fz0 : w1.frozen? ⟨g + 1, 0, none⟩ = false := row_thaw HR1.out 0
  have hz1 : w1.cell? ⟨g + 1, 1, none⟩ = some (.string ⟨#[]⟩) := row_cell HR1.out (j := 1) rfl
  have fz1 : w1.frozen? ⟨g + 1, 1, none⟩ = false := row_thaw HR1.out 1
  have hz2 : w1.cell? ⟨g + 1, 2, none⟩ = some (.slice none 0 0) := row_cell HR1.out (j := 2) rfl
  have fz2 : w1.frozen? ⟨g + 1, 2, none⟩ = false := row_thaw HR1.out 2
  have hz3 : w1.cell? ⟨g + 1, 3, none⟩ = some (.int .u32 0) := row_cell HR1.out (j := 3) rfl
  have fz3 : w1.frozen? ⟨g + 1, 3, none⟩ = false := row_thaw HR1.out 3
  have hz4 : w1.cell? ⟨g + 1, 4, none⟩ = some (.string ⟨#[]⟩) := row_cell HR1.out (j := 4) rfl
  have fz4 : w1.frozen? ⟨g + 1, 4, none⟩ = false := row_thaw HR1.out 4
  cases hb : mread (σ := List UInt8 × List UInt8 × List KV × Nat) scF.tk (scF.step d) scF.z X.data.toList d with
  | error c =>
    rw [hb] at hcase
    obtain ⟨v, q, rfl, hq, hew⟩ := hcase
    obtain ⟨T', y, rfl⟩ := hew.iface
    have HBR : Hid (scrd X.data.toList d = .error c) := Lib.hid hb
    have HEW := Lib.hid hew
    clear hb hew
    go_wp2_with fail
    obtain ⟨hr, hua⟩ := sc_set HR1.out (.string ⟨#[]⟩) (.string ⟨#[]⟩) (.slice none 0 0) (.int .u32 0) (.string ⟨#[]⟩)
    refine body_cell2v rfl rfl (load_sc hr rfl) rfl ?_
    refine ⟨HB1.out.trans (hua.below (by have := HB1.out.size; omega) (fun k _ h => by have h : k = g + 1 := h; omega)), ?_⟩
    rw [HBR.out]
    obtain ⟨ws, he⟩ := HEW.out
    exact ⟨_, q, rfl, hq, ws, isErr_upd hua (fun k hk b m e h => by have hk : k = g + 1 := hk; subst hk; rw [HR1.out] at h; simp at h) he⟩
  | ok xu =>
    obtain ⟨st, u⟩ := xu
    rw [hb] at hcase
    obtain ⟨rfl, P', ⟨P0, ⟨v, P1, h1, h2, rfl⟩, h3, h4, rfl⟩, hp⟩ := hcase
    obtain ⟨a, b, l, n⟩ := st
    have HBR : Hid (scrd X.data.toList d = .ok ((a, b, l, n), u)) := Lib.hid hb
    obtain ⟨css, Q, g2, g3, g4, g5, rfl⟩ := h2
    obtain ⟨lo, lc, rfl⟩ := own_slice g2
    have HRL := Lib.hid (KRel_own g2 g3 (P := fun k => g + 3 ≤ k) (fun j a1 a2 => KRel.upd (Upd.refl (fun _ => False) w1) (fun _ _ h => h) (fun k hk => (g5 k hk).2.1) _ _ (g4 j a1 a2)) (fun k hk => (g2.lt k hk).1))
    obtain ⟨U, hU⟩ : ∃ U : ByteArray, (⟨u.toArray⟩ : ByteArray) = U := ⟨_, rfl⟩
    have HUU := Lib.hid hU
    rw [hU]
    obtain ⟨A, hA⟩ : ∃ U : ByteArray, (⟨a.toArray⟩ : ByteArray) = U := ⟨_, rfl⟩
    obtain ⟨B, hB⟩ : ∃ U : ByteArray, (⟨b.toArray⟩ : ByteArray) = U := ⟨_, rfl⟩
    have HA := Lib.hid hA
    have HBB := Lib.hid hB
    unfold scRow strV at h1
    have HX1 : Hid (w1.heap[g + 2]? = some (.cells #[.string A, .string B, .slice lo l.length lc, .int .u32 (n : Int), .string ⟨#[]⟩] 26 (0, 0))) := Lib.hid (by rw [← hA, ← hB]; exact h1)
    have hx0 : w1.cell? ⟨g + 2, 0, none⟩ = some (.string A) := row_cell HX1.out (j := 0) rfl
    have hx1 : w1.cell? ⟨g + 2, 1, none⟩ = some (.string B) := row_cell HX1.out (j := 1) rfl
    have hx2 : w1.cell? ⟨g + 2, 2, none⟩ = some (.slice lo l.length lc) := row_cell HX1.out (j := 2) rfl
    have hx3 : w1.cell? ⟨g + 2, 3, none⟩ = some (.int .u32 (n : Int)) := row_cell HX1.out (j := 3) rfl
    have hx4 : w1.cell? ⟨g + 2, 4, none⟩ = some (.string ⟨#[]⟩) := row_cell HX1.out (j := 4) rfl
    have hfx : w1.frozen? ⟨g + 2, 4, none⟩ = false := row_thaw HX1.out 4
    clear hb h1 g2 g3 g4 g5 h3 h4 hp hU
    go_wp2_with fail
    have hux := Upd.set w1 ⟨g + 2, 4, none⟩ (.string U)
    obtain ⟨hr, hua⟩ := sc_set ((hux.block (g + 1) (row_lt HR1.out) (fun e => by have e : g + 1 = g + 2 := e; omega)).trans HR1.out) (.string A) (.string B) (.slice lo l.length lc) (.int .u32 (n : Int)) (.string U)
    refine body_cell2v rfl rfl (load_sc hr rfl) rfl ?_
    have hub := (hux.mono (S' := fun k => k = g + 1 ∨ k = g + 2) fun k _ h => .inr h).trans (hua.mono fun k _ h => .inl h)
    refine ⟨HB1.out.trans (hub.below (by have := HB1.out.size; omega) (fun k _ h => by omega)), ?_⟩
    rw [HBR.out]
    refine ⟨[.string A, .string B, .slice lo l.length lc, .int .u32 (n : Int), .string U], rfl, lo, lc, ?_, KRels.upd hub (fun k hk e => by omega) (fun k hk => by omega) _ _ _ HRL.out⟩
    rw [← HUU.out, ← HA.out, ← HBB.out]; rfl
end Go.Proofs.YtbdbmkmebeemoaaGreatDoor

namespace Go.Proofs.YtbdbmkmebeemoaaGreatDoor
open Go.RowKit

theorem nats_tab4 (w : World) (a0 a1 a2 a3 : Nat) : Nats .i64 (w.alloc (.cells #[.int .i64 (a0 : Int), .int .i64 (a1 : Int), .int .i64 (a2 : Int), .int .i64 (a3 : Int)] 3)) (some ⟨w.heap.size, 0, none⟩) [a0, a1, a2, a3] := by
  intro _
  refine ⟨w.heap.size, 0, rfl, by simp, fun j hj => ?_⟩
  have : j = 0 ∨ j = 1 ∨ j = 2 ∨ j = 3 := by simp at hj; omega
  rcases this with rfl | rfl | rfl | rfl
  · exact row_cell (heap_alloc_new w _) (j := 0) rfl
  · exact row_cell (heap_alloc_new w _) (j := 1) rfl
  · exact row_cell (heap_alloc_new w _) (j := 2) rfl
  · exact row_cell (heap_alloc_new w _) (j := 3) rfl
set_option maxRecDepth 100000 in
set_option maxHeartbeats 2000000 in
theorem sc_tab (w : World) : Calls Tryz.prog 38 #[] w fun e w' => ∃ ao, e = .returned (.slice ao 4 4) ∧ Hid (Nats .i64 w' ao [10, 18, 26, 32]) ∧ Below w.heap.size w w' := by
  have HN := Lib.hid (nats_tab4 w 10 18 26 32)
  go_enter Tryz.func38, Tryz.ntmps38
  go_wp2_with fail
  go_ret
  exact ⟨_, rfl, HN, below_new _ _⟩
theorem sc_rtk (r : Rec) : scF.tk r = rtk [10, 18, 26, 32] r := by
  rw [scF_tk]
  unfold rtk
  rw [Bool.eq_iff_iff]
  simp
  omega
end Go.Proofs.YtbdbmkmebeemoaaGreatDoor

namespace Go.Proofs.YtbdbmkmebeemoaaGreatDoor
open Go.RowKit

theorem bytes_rB (num : Nat) (X : ByteArray) (h1 : 1 ≤ num) (h2 : num ≤ 536870911) (hX : X.size ≤ 1000000) (w : World) :
    Calls Tryz.prog 108 #[.int .i64 (num : Int), .string X] w fun e w' => e = .returned (strV (rB num X.data.toList).raw) ∧ Below w.heap.size w w' := by
  have h := wbytes_any (num : Int) X w (by omega) (by omega) (by omega)
  have e := wrec_raw (num := num) (ty := 2) h1 h2 (by omega) (vput X.size ++ X.data.toList)
  rw [show ((2 : Nat) : Int) = 2 from rfl] at e
  have hz : X.data.toList.length = X.size := by simp
  rw [e, ← hz] at h
  exact h
theorem rB_len20 (num : Nat) (s : List UInt8) : (rB num s).raw.length ≤ 20 + s.length := by
  show (vput (8 * num + 2) ++ (vput s.length ++ s)).length ≤ _
  rw [List.length_append, List.length_append]
  have := vput_le10 (8 * num + 2)
  have := vput_le10 s.length
  omega
theorem wv_var {p : Nat} {d : Int} {ps : List (List UInt8)} {hs : List Hole} {b : Bool} {P : Nat → Prop} {w : World} (num n : Nat) (h : WrH p d ps hs b P w) (hn : n < 18446744073709551616) (h1 : 1 ≤ num) (h2 : num ≤ 536870911) (hl : ps.length ≤ 1000000) (hf : ps.flatten.length ≤ 10000000) :
    Calls Tryz.prog 51 #[.pointer (some ⟨p, 0, none⟩), .int .i64 (num : Int), .int .u64 (n : Int)] w (WvPost p d ps hs b P w true (if n = 0 then [] else (rN num n).raw) 1 20) := by
  have h3 := wv_lift (F := 51) (args := #[.pointer (some ⟨p, 0, none⟩), .int .i64 (num : Int), .int .u64 (n : Int)]) (g := true) (ts := wvarP num n) h (fun vo P0 hw => by simpa using wvar_any p d vo ps b P0 num n w (Lib.hid hw) hn h1 h2 hl hf)
  refine h3.mono fun e w' hp => ?_
  by_cases h0 : n = 0
  · rw [wvarP, if_pos h0] at hp
    rw [if_pos h0]
    exact hp.le (by simp) (by simp)
  · rw [wvarP, if_neg h0] at hp
    rw [if_neg h0]
    have e1 : wrec (num : Int) 0 (vput n) = (rN num n).raw := wrec_raw (num := num) (ty := 0) h1 h2 (by omega) (vput n)
    rw [e1] at hp
    have hl : (rN num n).raw.length ≤ 20 := by
      show (vput (8 * num + 0) ++ vput n).length ≤ 20
      rw [List.length_append]
      have := vput_le10 (8 * num + 0)
      have := vput_le10 n
      omega
    simp only [List.flatten_cons, List.flatten_nil, List.append_nil] at hp
    exact hp.le (by simp) hl
/-- where the writer stands, told by its row -/
theorem wrh_row {p : Nat} {d : Int} {ps : List (List UInt8)} {hs : List Hole} {b : Bool} {P : Nat → Prop} {w : World} (h : WrH p d ps hs b P w) : ∃ vp L vo ev, w.heap[p]? = some (.cells #[.int .i64 d, vp, L, vo, ev] 128 (0, 0)) ∧ EV8 b w ev := by
  obtain ⟨vo, P0, ⟨vp, ev, h1, h2, h3, h4⟩, _⟩ := h
  exact ⟨_, _, _, _, h1, h3⟩
set_option maxRecDepth 1000000 in
set_option maxHeartbeats 8000000 in
theorem partk_any (p : Nat) (d d1 : Int) (ps : List (List UInt8)) (hs : List Hole) (b : Bool) (P : Nat → Prop) (w : World) (num F : Nat) (may : Bool) (t : List UInt8) (cs : List Value) (hform : ∃ (K1 : ByteArray) (h1 : Bool) (k1 : Int) (S1 : ByteArray) (b1 : Bool) (n1 : Int) (l1 : Option Addr) (ln1 lc1 : Nat) (m1 : Option Addr) (mn1 mc1 : Nat) (I1 U1 Y1 : ByteArray), cs = [.string K1, .bool h1, .int .i64 k1, .string S1, .bool b1, .int .u64 n1, .slice l1 ln1 lc1, .slice m1 mn1 mc1, .string I1, .string U1, .string Y1]) (hw : Hid (WrH p d ps hs b P w)) (hET : ∀ args w, (callFunc F args).run Tryz.prog w = .ok (.enter F args) w) (hM : Hid (∀ w', Below w.heap.size w w' → Calls Tryz.prog F #[.agg cs.toArray, .int .i64 d1] w' (MarPost may t w'))) (hd1 : IntKind.i64.wrap (d - 1) = d1) (hnum : 1 ≤ num ∧ num ≤ 536870911) (ht : t.length ≤ 1000000) (hl : ps.length ≤ 1000000) (hf : ps.flatten.length + t.length ≤ 9000000) :
    Calls Tryz.prog 78 #[.pointer (some ⟨p, 0, none⟩), .int .i64 (num : Int), .agg cs.toArray, .func (.func F) #[] #[]] w (WvPost p d ps hs b P w may (rB num t).raw 1 (20 + t.length)) := by
  obtain ⟨K1, h1, k1, S1, b1, n1, l1, ln1, lc1, m1, mn1, mc1, I1, U1, Y1, rfl⟩ := hform
  obtain ⟨W0, hW0⟩ : ∃ W0, w.alloc (.cells #[.string K1, .bool h1, .int .i64 k1, .string S1, .bool b1, .int .u64 n1, .slice l1 ln1 lc1, .slice m1 mn1 mc1, .string I1, .string U1, .string Y1] 78) = W0 := ⟨_, rfl⟩
  obtain ⟨bx, hbx⟩ : ∃ bx, w.heap.size = bx := ⟨_, rfl⟩
  have HB0 : Hid (Below w.heap.size w W0) := Lib.hid (by rw [← hW0]; exact below_new _ _)
  have HX0 : Hid (W0.heap[bx]? = some (.cells #[.string K1, .bool h1, .int .i64 k1, .string S1, .bool b1, .int .u64 n1, .slice l1 ln1 lc1, .slice m1 mn1 mc1, .string I1, .string U1, .string Y1] 78 (0, 0))) := Lib.hid (by rw [← hW0, ← hbx]; exact heap_alloc_new _ _)
  have HSO := Lib.hid ((WSo.start hw.out).below HB0.out)
  obtain ⟨vp, L, vo, ev, hrow, hev⟩ := wrh_row (wh_below hw.out HB0.out)
  have HW0 := Lib.hid hW0
  have HBX := Lib.hid hbx
  have hpx : p ≠ bx := by
    obtain ⟨_, _, _, _, h, _⟩ := wrh_row hw.out
    have := row_lt h
    omega
  have k4 : W0.cell? ⟨p, 4, none⟩ = some ev := row_cell hrow (j := 4) rfl
  have HROW := Lib.hid hrow
  cases b with
  | true =>
    obtain ⟨T', y, rfl⟩ := hev.yes.iface
    rw [← hW0] at k4
    clear hev hrow hW0 hbx hd1
    go_enter Tryz.func78, Tryz.ntmps78
    go_wp2_with fail
    go_end0
    rw [HW0.out]
    have h1 := (HSO.out.done.le (l2 := 1) (f2 := 20 + t.length) (by omega) (by omega)).conv (m2 := may) (t2 := (rB num t).raw) (fun h => by cases h) (fun h => by cases h)
    exact h1
  | false =>
    obtain rfl := hev.no
    clear hev hrow
    have HM := Lib.hid (fun w' hb => hM.out w' (below_step HB0.out hb))
    rw [← hW0] at k4
    clear hW0 hbx
    go_enter Tryz.func78, Tryz.ntmps78
    go_wp2_with fail
    go_upto_region 2 with fail
    all_goals
      rw [HW0.out, HBX.out]
      obtain ⟨D, hD⟩ : ∃ D, W0.drew = D := ⟨_, rfl⟩
      have hB : Below W0.heap.size W0 D := by rw [← hD]; exact (Below.refl _ _).drew
      have hS : R2 bx #[.string K1, .bool h1, .int .i64 k1, .string S1, .bool b1, .int .u64 n1, .slice l1 ln1 lc1, .slice m1 mn1 mc1, .string I1, .string U1, .string Y1] 78 p #[.int .i64 d, vp, L, vo, .nilIface] 128 D := ⟨(hB.block _ (row_lt HX0.out)).trans HX0.out, (hB.block _ (row_lt HROW.out)).trans HROW.out⟩
      have hne : Nonempty {w' : World // R2 bx #[.string K1, .bool h1, .int .i64 k1, .string S1, .bool b1, .int .u64 n1, .slice l1 ln1 lc1, .slice m1 mn1 mc1, .string I1, .string U1, .string Y1] 78 p #[.int .i64 d, vp, L, vo, .nilIface] 128 w'} := ⟨⟨_, hS⟩⟩
      refine wp_region_seq (S := R2 bx #[.string K1, .bool h1, .int .i64 k1, .string S1, .bool b1, .int .u64 n1, .slice l1 ln1 lc1, .slice m1 mn1 mc1, .string I1, .string U1, .string Y1] 78 p #[.int .i64 d, vp, L, vo, .nilIface] 128) [(0, true), (1, true), (2, true), (3, true), (4, true), (5, true), (6, true), (7, false), (8, true), (9, true), (10, true), (11, true), (12, true)] (by kernel_rfl) (by kernel_rfl) (by kernel_rfl) (by kernel_rfl) (by rw [hD]; exact hS) ?_
      rw [hD]
      (refine seq_take _ rfl (fun KC hK => ?_); go_simp; (first | refine hK _ ?_ | refine ⟨_, fun _ _ => rfl, hK _ ?_⟩); clear hK KC)
      refine seq_take _ rfl (fun KC hK => ?_); go_simp
      refine ⟨.agg #[.string K1, .bool h1, .int .i64 k1, .string S1, .bool b1, .int .u64 n1, .slice l1 ln1 lc1, .slice m1 mn1 mc1, .string I1, .string U1, .string Y1], fun a ha => by obtain ⟨p0, p1, p2, p3, p4, p5, p6, p7, p8, p9, p10⟩ := row11 ha.1; simp only [p0, p1, p2, p3, p4, p5, p6, p7, p8, p9, p10, Result.andThen], hK _ ?_⟩
      clear hK KC
      iterate 3 (refine seq_take _ rfl (fun KC hK => ?_); go_simp; (first | refine hK _ ?_ | refine ⟨_, fun _ _ => rfl, hK _ ?_⟩); clear hK KC)
      refine seq_take _ rfl (fun KC hK => ?_); go_simp
      refine ⟨.int .i64 d, fun a ha => by rw [row_cell ha.2 (j := 0) rfl]; rfl, hK _ ?_⟩
      clear hK KC
      (refine seq_take _ rfl (fun KC hK => ?_); go_simp; (first | refine hK _ ?_ | refine ⟨_, fun _ _ => rfl, hK _ ?_⟩); clear hK KC)
      refine seq_come _ rfl (fun KC hK => ?_); go_simp
      refine (HM.out D hB).mono ?_; rintro e w1 ⟨hb1, hcase⟩
      have hS1 := hS.below hb1
      have HSO1 := Lib.hid (HSO.out.below (below_step hB hb1))
      cases may with
      | true =>
        rw [if_pos rfl] at hcase
        subst hcase
        go_simp
        refine hK.out _ _ hS1 ?_; clear hK KC
        iterate 5 (refine seq_take _ rfl (fun KC hK => ?_); go_simp; (first | refine hK _ ?_ | refine ⟨_, fun _ _ => rfl, hK _ ?_⟩); clear hK KC)
        refine seq_done ?_
        clear hne hS hS1
        go_wp2_with fail
        refine (bytes_rB num ⟨t.toArray⟩ hnum.1 hnum.2 (by simp [ByteArray.size]; omega) w1).mono ?_; rintro e w2 ⟨rfl, hb2⟩
        have HSO2 := Lib.hid (HSO1.out.below hb2)
        have hr20 := rB_len20 num t
        go_wp2_with fail
        have hwr := HSO2.out.wr
        have hput := wv_put (rB num t).raw hwr (by rw [List.length_append]; have := HSO2.out.len; omega) (by rw [List.flatten_append, List.length_append]; have := HSO2.out.size; omega)
        refine hput.mono ?_; intro e w3 hpost
        obtain ⟨qs2, P2, rfl, hso⟩ := HSO2.out.next hpost
        have HF := Lib.hid hso
        clear hpost hput hwr hso
        go_wp2_with fail
        go_end0
        exact HF.out.done.le (by omega) (by omega)
      | false =>
        rw [if_neg (by simp)] at hcase
        obtain ⟨v, rfl, hec⟩ := hcase
        obtain ⟨T', y, rfl⟩ := hec.iface
        have HEC := Lib.hid hec
        clear hec
        go_simp
        refine hK.out _ _ hS1 ?_; clear hK KC
        iterate 5 (refine seq_take _ rfl (fun KC hK => ?_); go_simp; (first | refine hK _ ?_ | refine ⟨_, fun _ _ => rfl, hK _ ?_⟩); clear hK KC)
        refine seq_done ?_
        clear hne hS hS1
        go_wp2_with fail
        refine (in_any _ _ _ _).mono ?_; rintro e w2 ⟨rfl, rfl⟩
        have HEF := Lib.hid (ec_field (n := (num : Int)) HEC.out)
        have HSO2 := Lib.hid (HSO1.out.below (below_new w1 (.cells #[.int .i64 (num : Int), .iface T' y] 113)))
        go_wp2_with fail
        have hlift := wv_lift (F := 106) (args := #[.pointer (some ⟨p, 0, none⟩), .iface 111 (.pointer (some ⟨w1.heap.size, 0, none⟩))]) (g := false) (ts := []) HSO2.out.wr (fun vo P0 h1 => by rw [Bool.not_false, Bool.or_true, wps_nil]; exact wfail_any p d vo _ _ P0 _ _ _ (Lib.hid h1) HEF)
        refine hlift.mono ?_; intro e w3 hpost
        obtain ⟨qs2, P2, rfl, hso⟩ := HSO2.out.next hpost
        have HF := Lib.hid hso
        clear hpost hlift hso
        go_wp2_with fail
        go_end0
        exact (HF.out.done.le (l2 := 1) (f2 := 20 + t.length) (by simp) (by simp)).conv (m2 := false) (t2 := (rB num t).raw) (fun _ => rfl) (fun _ h => by cases h)
/-- value.MarshalKey, of any attribute -/
def KMar : Prop := ∀ (x : KV) (cs : List Value) (Q : Nat → Prop) (d : Int) (w : World) (_ : kfit x) (_ : KRel w Q x cs) (_ : -9223372036854775808 ≤ d ∧ d ≤ 9223372036854775807) (_ : kw x ≤ 400000), Calls Tryz.prog 50 #[.agg cs.toArray, .int .i64 d] w (MarPost (kmayD x d) (kout x) w)
set_option maxRecDepth 1000000 in
set_option maxHeartbeats 8000000 in
theorem listk_if (l : List KV) (hM : Hid (l ≠ [] → KMar)) (p : Nat) (d : Int) (ps : List (List UInt8)) (hs : List Hole) (b : Bool) (P Q : Nat → Prop) (w : World) (num : Nat) (lo : Option Addr) (lc : Nat) (hfit : ksfit l) (ha : KRels w Q l lo 0) (hdis : ∀ k, Q k → ¬ P k) (hw : WrH p d ps hs b P w) (hbd : b = true ∨ 0 ≤ d) (hd : -9223372036854775808 ≤ d ∧ d ≤ 9223372036854775807) (hnum : 1 ≤ num ∧ num ≤ 536870911) (hsz : ps.length + ksw l ≤ 500000 ∧ ps.flatten.length + ksw l ≤ 5000000 ∧ ksw l ≤ 400000) :
    Calls Tryz.prog 49 #[.pointer (some ⟨p, 0, none⟩), .int .i64 (num : Int), .slice lo l.length lc, .func (.func 50) #[] #[]] w (WvPost p d ps hs b P w (kmays l d) (kouts num l) (ksw l) (ksw l)) := by
  have HFIT := Lib.hid hfit
  have HA := Lib.hid (KRels.lt l lo 0 ha)
  have HDIS := Lib.hid hdis
  have HW := Lib.hid hw
  have HBD := Lib.hid hbd
  have HSZ := Lib.hid hsz
  have HNUM := Lib.hid hnum
  have hlen : l.length ≤ 500000 := by have := ksw_len l; omega
  obtain ⟨d1, hd1⟩ : ∃ d1, IntKind.i64.wrap (d - 1) = d1 := ⟨_, rfl⟩
  have HD1 : Hid (0 ≤ d → d1 = d - 1) := Lib.hid (fun h => by rw [← hd1, IntWalk.i64_in _ (by omega)])
  have HD1R : Hid (-9223372036854775808 ≤ d1 ∧ d1 ≤ 9223372036854775807) := Lib.hid (by
    rcases Int.lt_or_le (-9223372036854775808) d with h | h
    · rw [IntWalk.i64_in _ (by omega)] at hd1; omega
    · have e : d = -9223372036854775808 := by omega
      subst e
      have : IntKind.i64.wrap (-9223372036854775808 - 1) = 9223372036854775807 := by decide +kernel
      omega)
  have HQ1 := Lib.hid hd1
  have HE := Lib.hid (enters_of Tryz.func50 (by kernel_rfl) rfl)
  clear hfit ha hdis hw hbd hsz hnum hd hd1
  go_enter Tryz.func49, Tryz.ntmps49
  go_wp2_with fail
  go_loopg [12] l.length (fun k i wr => ∃ (j : Nat) (qs : List (List UInt8)) (P1 : Nat → Prop), i = .int .i64 (j : Int) ∧ j + k = l.length ∧ Hid (WSo p d ps hs b P w (kmays (l.take j) d) (kouts num (l.take j)) (ksw (l.take j)) (ksw (l.take j)) qs P1 wr))
  case atStart => exact ⟨0, [], P, rfl, by omega, Lib.hid (by simpa [kmays, kouts, ksw] using WSo.start HW.out)⟩
  case round =>
    obtain ⟨j, qs, P1, rfl, hj, HSO⟩ := hrel
    have HJ := Lib.hid hj
    clear hj
    by_cases hlt : j < l.length
    · have HAW : Hid (KRels wr (fun k => Q k ∧ k < w.heap.size) l lo 0) := Lib.hid (KRels.upd HSO.out.upd (fun k hk hp => HDIS.out k hk.1 hp) (fun k hk => hk) l lo 0 HA.out)
      obtain ⟨ga, oa, ca, rfl, hga, hca, hra⟩ := krels_at0 HAW.out j hlt
      have hmem := List.getElem_mem hlt
      obtain ⟨x, hx⟩ : ∃ x, l[j] = x := ⟨_, rfl⟩
      have HFX := Lib.hid (ksfit_at HFIT.out x (hx ▸ hmem))
      have HTM : Hid (kmays (l.take (j + 1)) d = (kmays (l.take j) d && (decide (1 ≤ d) && kmay x (d - 1)))) := Lib.hid (by rw [List.take_succ_eq_append_getElem hlt, kmays_app, hx, kmays_one])
      have HTO : Hid (kouts num (l.take (j + 1)) = kouts num (l.take j) ++ (rB num (kout x)).raw) := Lib.hid (by rw [List.take_succ_eq_append_getElem hlt, kouts_app, hx, kouts_one])
      have HTW : Hid (ksw (l.take (j + 1)) = ksw (l.take j) + kw x) := Lib.hid (by rw [List.take_succ_eq_append_getElem hlt, ksw_app, hx, ksw_one])
      have HTB : Hid (ksw (l.take j) + kw x ≤ ksw l) := Lib.hid (by rw [← hx]; exact ksw_at hlt)
      have HKO : Hid ((kout x).length + 20 ≤ kw x) := Lib.hid (by have := kout_le x; have := kw_kb x; omega)
      rw [hx] at hra
      have HRA := Lib.hid hra
      obtain ⟨K1, h1, k1, S1, b1, n1, l1, ln1, lc1, m1, mn1, mc1, I1, U1, Y1, rfl⟩ := hra.form
      have HCA := Lib.hid hca
      obtain ⟨wa, hwa⟩ : ∃ wa, wr.alloc (.cells #[.string K1, .bool h1, .int .i64 k1, .string S1, .bool b1, .int .u64 n1, .slice l1 ln1 lc1, .slice m1 mn1 mc1, .string I1, .string U1, .string Y1] 78) = wa := ⟨_, rfl⟩
      have HBA : Hid (Below wr.heap.size wr wa) := Lib.hid (by rw [← hwa]; exact below_new _ _)
      have HSA := Lib.hid (HSO.out.below HBA.out)
      have HWA := Lib.hid hwa
      have Hpartk_any := Lib.hid (partk_any p d d1 (ps ++ qs) hs (b || !kmays (l.take j) d) P1 wa num 50 (kmayD x d1) (kout x) [.string K1, .bool h1, .int .i64 k1, .string S1, .bool b1, .int .u64 n1, .slice l1 ln1 lc1, .slice m1 mn1 mc1, .string I1, .string U1, .string Y1] ⟨K1, h1, k1, S1, b1, n1, l1, ln1, lc1, m1, mn1, mc1, I1, U1, Y1, rfl⟩ (Lib.hid HSA.out.wr) HE.out (Lib.hid (fun w' hb => hM.out (fun h => by rw [h] at hlt; simp at hlt) x [.string K1, .bool h1, .int .i64 k1, .string S1, .bool b1, .int .u64 n1, .slice l1 ln1 lc1, .slice m1 mn1 mc1, .string I1, .string U1, .string Y1] _ d1 w' HFX.out ((HRA.out.below HBA.out).below hb) HD1R.out (by have := HTB.out; have := HSZ.out; omega))) HQ1.out HNUM.out (by have := HKO.out; have := HTB.out; have := HSZ.out; omega) (by rw [List.length_append]; have := HSA.out.len; have := HTB.out; have := HSZ.out; omega) (by rw [List.flatten_append, List.length_append]; have := HSA.out.size; have := HKO.out; have := HTB.out; have := HSZ.out; omega))
      clear hx hmem hra hca hwa
      obtain ⟨e0, e1, e2, e3, e4, e5, e6, e7, e8, e9, e10⟩ := cells11 HCA.out
      go_wp2_with fail
      rw [HWA.out]
      refine Hpartk_any.out.mono ?_; intro e w5 hpost
      have hp2 := hpost.conv (m2 := decide (1 ≤ d) && kmay x (d - 1)) (t2 := (rB num (kout x)).raw) (fun hb => by
        have h0 : 0 ≤ d := by
          rcases HBD.out with h | h
          · rw [h] at hb; cases hb
          · exact h
        rw [HD1.out h0, kmayD]
        congr 1
        exact decide_eq_decide.2 (by omega)) (fun _ _ => rfl)
      obtain ⟨qs2, P2, rfl, hso⟩ := HSA.out.next hp2
      rw [← HTM.out, ← HTO.out] at hso
      have HS5 := Lib.hid hso
      clear hpost hp2 hso e0 e1 e2 e3 e4 e5 e6 e7 e8 e9 e10
      go_wp2_with fail
      have hj := HJ.out
      go_roundg (gk - 1)
      case measure => omega
      case rel => exact ⟨j + 1, qs ++ qs2, P2, by simp, by omega, Lib.hid ⟨HS5.out.upd, HS5.out.wr, HS5.out.new, HS5.out.bytes, by have := HS5.out.len; have := HTW.out; have := HKO.out; omega, by have := HS5.out.size; have := HTW.out; have := HKO.out; omega⟩⟩
    · have hjn : j = l.length := by have := HJ.out; omega
      subst hjn
      rw [List.take_length] at HSO
      go_wp2_with fail
      go_end0
      exact HSO.out.done
end Go.Proofs.YtbdbmkmebeemoaaGreatDoor
namespace Go.Proofs.YtbdbmkmebeemoaaGreatDoor
open Go.RowKit

theorem mar_below {w W0 w1 w2 w3 : World} {p : Nat} {P1 : Nat → Prop} (h0 : Below w.heap.size w W0) (hp : W0.heap.size = p) (h1 : Below p W0 w1) (h2 : Upd P1 w1 w2) (hP : ∀ k, P1 k → p ≤ k) (h3 : Below w2.heap.size w2 w3) : Below w.heap.size w w3 :=
  h0.trans ((h1.trans ((h2.below (by have := h1.size; omega) (fun k _ h => hP k h)).trans (h3.mono (by have := h1.size; have := h2.size; omega)))).mono (by have := h0.size; omega))
theorem wbytesP_len (num : Nat) (h1 : 1 ≤ num) (h2 : num ≤ 536870911) (t : List UInt8) : (wbytesP num t).length ≤ 1 ∧ (wbytesP num t).flatten.length ≤ 20 + t.length := by
  unfold wbytesP
  split
  · simp
  · have e := wrec_raw (num := num) (ty := 2) h1 h2 (by omega) (vput t.length ++ t)
    have e2 : wrec (num : Int) 2 (vput t.length ++ t) = (rB num t).raw := e
    rw [e2]
    have := rB_len20 num t
    simp only [List.length_cons, List.length_nil, List.flatten_cons, List.flatten_nil, List.append_nil]
    omega
theorem wbytesP_raw (num : Nat) (h1 : 1 ≤ num) (h2 : num ≤ 536870911) (t : List UInt8) : (wbytesP num t).flatten = if t = [] then [] else (rB num t).raw := by
  unfold wbytesP
  split
  · rfl
  · have e := wrec_raw (num := num) (ty := 2) h1 h2 (by omega) (vput t.length ++ t)
    have e2 : wrec (num : Int) 2 (vput t.length ++ t) = (rB num t).raw := e
    rw [e2]
    simp
theorem u64_wrap32 {n : Nat} (h : n < 4294967296) : IntKind.u64.wrap (n : Int) = (n : Int) := by
  show ((n : Int) % 18446744073709551616) = _
  omega
def rs_may (d : Int) (x : (List KV × Nat) × List UInt8) : Bool := decide (0 ≤ d) && (kmays x.1.1 d && munkOk rsF.tk x.2 d)
def rs_out (x : (List KV × Nat) × List UInt8) : List UInt8 := kouts 1 x.1.1 ++ (if x.1.2 = 0 then [] else (rN 2 x.1.2).raw) ++ x.2
/-- little enough to be written -/
def rs_fit (x : (List KV × Nat) × List UInt8) : Prop := ksfit x.1.1 ∧ x.1.2 < 4294967296 ∧ ksw x.1.1 + x.2.length ≤ 400000
set_option maxRecDepth 1000000 in
set_option maxHeartbeats 8000000 in
theorem rs_marshal_if (x : (List KV × Nat) × List UInt8) (hM : Hid (x.1.1 ≠ [] → KMar)) (cs : List Value) (Q : Nat → Prop) (d : Int) (w : World) (hf : rs_fit x) (hr : RsRel w Q x cs) (hd : -9223372036854775808 ≤ d ∧ d ≤ 9223372036854775807) :
    Calls Tryz.prog 26 #[.agg cs.toArray, .int .i64 d] w (MarPost (rs_may d x) (rs_out x) w) := by
  obtain ⟨lo, lc, rfl, hr⟩ := hr
  obtain ⟨⟨l, n⟩, u⟩ := x
  have HR := Lib.hid (KRels.lt _ _ _ hr)
  have HD := Lib.hid hd
  obtain ⟨HFL, HFN, HFw⟩ := hf
  dsimp only at HFL HFN HFw
  obtain ⟨U, hU⟩ : ∃ U : ByteArray, (⟨u.toArray⟩ : ByteArray) = U := ⟨_, rfl⟩
  have HU := Lib.hid hU
  have HFK : Hid (ksw l + u.length ≤ 400000) := Lib.hid HFw
  have HFL := Lib.hid HFL
  have HM := Lib.hid (show rs_may d (((l, n), u)) = rs_may d (((l, n), u)) from rfl)
  dsimp only [strV]
  rw [hU]
  obtain ⟨mx, hmx⟩ : ∃ m, rs_may d (((l, n), u)) = m := ⟨_, rfl⟩
  obtain ⟨ox, hox⟩ : ∃ m, rs_out (((l, n), u)) = m := ⟨_, rfl⟩
  rw [hmx, hox]
  have HMX := Lib.hid hmx
  have HOX := Lib.hid hox
  obtain ⟨W0, hW0⟩ : ∃ W, w.alloc (.cells #[.slice lo l.length lc, .int .u32 (n : Int), .string U] 45) = W := ⟨_, rfl⟩
  obtain ⟨bx, hbx⟩ : ∃ bx, w.heap.size = bx := ⟨_, rfl⟩
  have HB0 : Hid (Below w.heap.size w W0) := Lib.hid (by rw [← hW0]; exact below_new _ _)
  have HX0 : Hid (W0.heap[bx]? = some (.cells #[.slice lo l.length lc, .int .u32 (n : Int), .string U] 45 (0, 0))) := Lib.hid (by rw [← hW0, ← hbx]; exact heap_alloc_new _ _)
  have HW0 := Lib.hid hW0
  have HBX := Lib.hid hbx
  have HET := Lib.hid (enters_of Tryz.func58 (by kernel_rfl) rfl)
  have HFN := Lib.hid HFN
  have q1 := u64_wrap32 HFN.out
  clear hW0 hbx hr hd HM hmx hox hU HFw
  go_enter Tryz.func26, Tryz.ntmps26
  go_wp2_with fail
  rw [HW0.out, HBX.out]
  refine (wmnew_any d W0).mono ?_; rintro e w1 ⟨rfl, hb1, P1, hw1, hp1⟩
  obtain ⟨p, hp⟩ : ∃ p, W0.heap.size = p := ⟨_, rfl⟩
  have hpp : bx < p := by rw [← hp]; exact row_lt HX0.out
  rw [hp] at hw1 hb1 hp1 ⊢
  have HB1 : Hid (Below p W0 w1) := Lib.hid hb1
  have HP1 : Hid (∀ k, P1 k → p ≤ k) := Lib.hid hp1
  have HPE := Lib.hid hp
  have HS := Lib.hid (WSx.start (wh_new hw1) (Below.refl _ _) ((hb1.block _ hpp).trans HX0.out) (fun h => by have := hp1 bx h; omega))
  have HR1 : Hid (KRels w1 (fun k => Q k ∧ k < w.heap.size) l lo 0) := Lib.hid (KRels.upd (Upd.of_new (S := fun _ => False) (HB0.out.trans (hb1.mono (by have := HB0.out.size; omega)))) (fun _ _ h => h) (fun _ h => h) l lo 0 HR.out)
  have HQ1 : Hid (∀ k, Q k ∧ k < w.heap.size → k < p ∧ k < w1.heap.size) := Lib.hid (fun k hk => by have := HB0.out.size; have := hb1.size; omega)
  clear hb1 hw1 hp1 hp
  have xc : w1.cell? ⟨bx, 0, none⟩ = some (.slice lo l.length lc) := HS.out.cell rfl
  go_wp2_with fail
  refine (listk_if l hM p d _ [] _ _ (fun k => Q k ∧ k < w.heap.size) w1 1 lo lc HFL.out (KRels.upd HS.out.so.upd (fun k hk h => by have := HP1.out k h; have := HQ1.out k hk; omega) (fun _ h => h) l lo 0 HR1.out) (fun k hk h => by have := HQ1.out k hk; rcases HS.out.so.new k h with h | h; (have := HP1.out k h; omega); omega) HS.out.so.wr (by by_cases h : d < 0; (left; simp [h]); (right; omega)) HD.out (by omega) ⟨by have := HS.out.so.len; have := HFK.out; simp only [List.nil_append]; omega, by have := HS.out.so.size; have := HFK.out; simp only [List.nil_append]; omega, by have := HFK.out; omega⟩).mono ?_; intro e w2 hpost
  obtain ⟨qs2, P2, rfl, hs⟩ := HS.out.next hpost
  have HSN := Lib.hid hs
  clear hpost hs HS xc
  have HS := HSN
  clear HSN
  have xc : w2.cell? ⟨bx, 1, none⟩ = some (.int .u32 (n : Int)) := HS.out.cell rfl
  go_wp2_with fail
  refine (wv_var 2 n HS.out.so.wr (by have := HFN.out; omega) (by omega) (by omega) (by have := HS.out.so.len; have := HFK.out; simp only [List.nil_append]; omega) (by have := HS.out.so.size; have := HFK.out; simp only [List.nil_append]; omega)).mono ?_; intro e w3 hpost
  obtain ⟨qs3, P3, rfl, hs⟩ := HS.out.next hpost
  have HSN := Lib.hid hs
  clear hpost hs HS xc
  have HS := HSN
  clear HSN
  have xc : w3.cell? ⟨bx, 2, none⟩ = some (.string U) := HS.out.cell rfl
  go_wp2_with fail
  refine (wv_rest U u rsF.tk 58 HS.out.so.wr HU.out.symm (by have := HFK.out; omega) (by have := HS.out.so.len; have := HFK.out; simp only [List.nil_append]; omega) (by have := HS.out.so.size; have := HFK.out; simp only [List.nil_append]; omega) HET.out (fun r w => rstakes_any r w)).mono ?_; intro e w4 hpost
  obtain ⟨qs4, P4, rfl, hs⟩ := HS.out.next hpost
  have HSN := Lib.hid hs
  clear hpost hs HS xc
  have HS := HSN
  clear HSN
  go_wp2_with fail
  obtain ⟨vo, P0, hwa, _⟩ := HS.out.so.wr
  have HWA := Lib.hid hwa
  have HLB := Lib.hid (And.intro HS.out.so.len HS.out.so.size)
  clear hwa
  refine (wend_any p d vo _ _ P0 _ HWA (by have := HLB.out.1; simp only [List.nil_append]; (have := HFK.out; omega)) (by have := HLB.out.2; simp only [List.nil_append]; (have := HFK.out; omega))).mono ?_; rintro e w9 ⟨hb9, hcase⟩
  have HB9 := Lib.hid (mar_below HB0.out HPE.out HB1.out HS.out.so.upd HP1.out hb9)
  have HBY := Lib.hid HS.out.so.bytes
  obtain ⟨bb, hbb⟩ : ∃ bb, (decide (d < 0) || !(((true && kmays l d) && true) && munkOk rsF.tk u d)) = bb := ⟨_, rfl⟩
  rw [hbb] at hcase HBY
  have HBB : Hid (mx = !bb) := Lib.hid (by
    rw [← HMX.out, ← hbb]
    show (decide (0 ≤ d) && (kmays l d && munkOk rsF.tk u d)) = _
    by_cases h : d < 0
    · rw [decide_eq_true h, decide_eq_false (by omega : ¬ 0 ≤ d)]; rfl
    · rw [decide_eq_false h, decide_eq_true (by omega : 0 ≤ d)]
      simp only [Bool.true_and, Bool.and_true, Bool.false_or, Bool.not_not])
  clear hb9 hbb
  cases bb with
  | true =>
    rw [if_pos rfl] at hcase
    obtain ⟨v, rfl, hec⟩ := hcase
    obtain ⟨T', y, rfl⟩ := hec.iface
    have HEC := Lib.hid hec
    clear hec
    go_wp2_with fail
    go_ret2
    refine ⟨HB9.out, ?_⟩
    rw [HBB.out, if_neg (by simp)]
    exact ⟨_, rfl, HEC.out⟩
  | false =>
    rw [if_neg (by simp)] at hcase
    subst hcase
    have hq9 := HBY.out rfl
    rw [List.nil_append, hq9]
    have hoe : ([] ++ kouts 1 l ++ (if n = 0 then [] else (rN 2 n).raw) ++ u : List UInt8) = ox := by
      rw [← HOX.out]
      unfold rs_out
      dsimp only
      rw [List.nil_append]
    rw [hoe]
    clear hoe hq9
    go_wp2_with fail
    go_ret2
    refine ⟨HB9.out, ?_⟩
    rw [HBB.out, if_pos (show (!false) = true from rfl)]
    rfl
def sc_may (d : Int) (x : (List UInt8 × List UInt8 × List KV × Nat) × List UInt8) : Bool := decide (0 ≤ d) && (((uvalid x.1.1 && uvalid x.1.2.1) && kmays x.1.2.2.1 d) && munkOk scF.tk x.2 d)
def sc_out (x : (List UInt8 × List UInt8 × List KV × Nat) × List UInt8) : List UInt8 := (if x.1.1 = [] then [] else (rB 1 x.1.1).raw) ++ (if x.1.2.1 = [] then [] else (rB 2 x.1.2.1).raw) ++ kouts 3 x.1.2.2.1 ++ (if x.1.2.2.2 = 0 then [] else (rN 4 x.1.2.2.2).raw) ++ x.2
/-- little enough to be written -/
def sc_fit (x : (List UInt8 × List UInt8 × List KV × Nat) × List UInt8) : Prop := ksfit x.1.2.2.1 ∧ x.1.2.2.2 < 4294967296 ∧ x.1.1.length + x.1.2.1.length + ksw x.1.2.2.1 + x.2.length ≤ 400000
set_option maxRecDepth 1000000 in
set_option maxHeartbeats 8000000 in
theorem sc_marshal_if (x : (List UInt8 × List UInt8 × List KV × Nat) × List UInt8) (hM : Hid (x.1.2.2.1 ≠ [] → KMar)) (cs : List Value) (Q : Nat → Prop) (d : Int) (w : World) (hf : sc_fit x) (hr : ScRel w Q x cs) (hd : -9223372036854775808 ≤ d ∧ d ≤ 9223372036854775807) :
    Calls Tryz.prog 16 #[.agg cs.toArray, .int .i64 d] w (MarPost (sc_may d x) (sc_out x) w) := by
  obtain ⟨lo, lc, rfl, hr⟩ := hr
  obtain ⟨⟨a, b, l, n⟩, u⟩ := x
  have HR := Lib.hid (KRels.lt _ _ _ hr)
  have HD := Lib.hid hd
  obtain ⟨HFL, HFN, HFw⟩ := hf
  dsimp only at HFL HFN HFw
  obtain ⟨U, hU⟩ : ∃ U : ByteArray, (⟨u.toArray⟩ : ByteArray) = U := ⟨_, rfl⟩
  have HU := Lib.hid hU
  have HFK : Hid (a.length + b.length + ksw l + u.length ≤ 400000) := Lib.hid HFw
  have HFL := Lib.hid HFL
  obtain ⟨A, hA⟩ : ∃ U : ByteArray, (⟨a.toArray⟩ : ByteArray) = U := ⟨_, rfl⟩
  obtain ⟨B, hB⟩ : ∃ U : ByteArray, (⟨b.toArray⟩ : ByteArray) = U := ⟨_, rfl⟩
  have HA : Hid (A.data.toList = a) := Lib.hid (by rw [← hA])
  have HBB0 : Hid (B.data.toList = b) := Lib.hid (by rw [← hB])
  have HM := Lib.hid (show sc_may d (((a, b, l, n), u)) = sc_may d (((a, b, l, n), u)) from rfl)
  dsimp only [strV]
  rw [hU, hA, hB]
  obtain ⟨mx, hmx⟩ : ∃ m, sc_may d (((a, b, l, n), u)) = m := ⟨_, rfl⟩
  obtain ⟨ox, hox⟩ : ∃ m, sc_out (((a, b, l, n), u)) = m := ⟨_, rfl⟩
  rw [hmx, hox]
  have HMX := Lib.hid hmx
  have HOX := Lib.hid hox
  obtain ⟨W0, hW0⟩ : ∃ W, w.alloc (.cells #[.string A, .string B, .slice lo l.length lc, .int .u32 (n : Int), .string U] 26) = W := ⟨_, rfl⟩
  obtain ⟨bx, hbx⟩ : ∃ bx, w.heap.size = bx := ⟨_, rfl⟩
  have HB0 : Hid (Below w.heap.size w W0) := Lib.hid (by rw [← hW0]; exact below_new _ _)
  have HX0 : Hid (W0.heap[bx]? = some (.cells #[.string A, .string B, .slice lo l.length lc, .int .u32 (n : Int), .string U] 26 (0, 0))) := Lib.hid (by rw [← hW0, ← hbx]; exact heap_alloc_new _ _)
  have HW0 := Lib.hid hW0
  have HBX := Lib.hid hbx
  have HET := Lib.hid (enters_of Tryz.func32 (by kernel_rfl) rfl)
  have HFN := Lib.hid HFN
  have q1 := u64_wrap32 HFN.out
  clear hW0 hbx hr hd HM hmx hox hU hA hB HFw
  go_enter Tryz.func16, Tryz.ntmps16
  go_wp2_with fail
  rw [HW0.out, HBX.out]
  refine (wmnew_any d W0).mono ?_; rintro e w1 ⟨rfl, hb1, P1, hw1, hp1⟩
  obtain ⟨p, hp⟩ : ∃ p, W0.heap.size = p := ⟨_, rfl⟩
  have hpp : bx < p := by rw [← hp]; exact row_lt HX0.out
  rw [hp] at hw1 hb1 hp1 ⊢
  have HB1 : Hid (Below p W0 w1) := Lib.hid hb1
  have HP1 : Hid (∀ k, P1 k → p ≤ k) := Lib.hid hp1
  have HPE := Lib.hid hp
  have HS := Lib.hid (WSx.start (wh_new hw1) (Below.refl _ _) ((hb1.block _ hpp).trans HX0.out) (fun h => by have := hp1 bx h; omega))
  have HR1 : Hid (KRels w1 (fun k => Q k ∧ k < w.heap.size) l lo 0) := Lib.hid (KRels.upd (Upd.of_new (S := fun _ => False) (HB0.out.trans (hb1.mono (by have := HB0.out.size; omega)))) (fun _ _ h => h) (fun _ h => h) l lo 0 HR.out)
  have HQ1 : Hid (∀ k, Q k ∧ k < w.heap.size → k < p ∧ k < w1.heap.size) := Lib.hid (fun k hk => by have := HB0.out.size; have := hb1.size; omega)
  clear hb1 hw1 hp1 hp
  have xc : w1.cell? ⟨bx, 0, none⟩ = some (.string A) := HS.out.cell rfl
  go_wp2_with fail
  refine ((wv_text 1 A a HS.out.so.wr HA.out (by omega) (by have := HFK.out; omega) (by have := HS.out.so.len; have := HFK.out; simp only [List.nil_append]; omega) (by have := HS.out.so.size; have := HFK.out; simp only [List.nil_append]; omega)).mono (fun _ _ h => h.le (l2 := 1) (f2 := 20 + a.length) (wbytesP_len 1 (by omega) (by omega) a).1 (wbytesP_len 1 (by omega) (by omega) a).2)).mono ?_; intro e w2 hpost
  obtain ⟨qs2, P2, rfl, hs⟩ := HS.out.next hpost
  have HSN := Lib.hid hs
  clear hpost hs HS xc
  have HS := HSN
  clear HSN
  have xc : w2.cell? ⟨bx, 1, none⟩ = some (.string B) := HS.out.cell rfl
  go_wp2_with fail
  refine ((wv_text 2 B b HS.out.so.wr HBB0.out (by omega) (by have := HFK.out; omega) (by have := HS.out.so.len; have := HFK.out; simp only [List.nil_append]; omega) (by have := HS.out.so.size; have := HFK.out; simp only [List.nil_append]; omega)).mono (fun _ _ h => h.le (l2 := 1) (f2 := 20 + b.length) (wbytesP_len 2 (by omega) (by omega) b).1 (wbytesP_len 2 (by omega) (by omega) b).2)).mono ?_; intro e w3 hpost
  obtain ⟨qs3, P3, rfl, hs⟩ := HS.out.next hpost
  have HSN := Lib.hid hs
  clear hpost hs HS xc
  have HS := HSN
  clear HSN
  have xc : w3.cell? ⟨bx, 2, none⟩ = some (.slice lo l.length lc) := HS.out.cell rfl
  go_wp2_with fail
  refine (listk_if l hM p d _ [] _ _ (fun k => Q k ∧ k < w.heap.size) w3 3 lo lc HFL.out (KRels.upd HS.out.so.upd (fun k hk h => by have := HP1.out k h; have := HQ1.out k hk; omega) (fun _ h => h) l lo 0 HR1.out) (fun k hk h => by have := HQ1.out k hk; rcases HS.out.so.new k h with h | h; (have := HP1.out k h; omega); omega) HS.out.so.wr (by by_cases h : d < 0; (left; simp [h]); (right; omega)) HD.out (by omega) ⟨by have := HS.out.so.len; have := HFK.out; simp only [List.nil_append]; omega, by have := HS.out.so.size; have := HFK.out; simp only [List.nil_append]; omega, by have := HFK.out; omega⟩).mono ?_; intro e w4 hpost
  obtain ⟨qs4, P4, rfl, hs⟩ := HS.out.next hpost
  have HSN := Lib.hid hs
  clear hpost hs HS xc
  have HS := HSN
  clear HSN
  have xc : w4.cell? ⟨bx, 3, none⟩ = some (.int .u32 (n : Int)) := HS.out.cell rfl
  go_wp2_with fail
  refine (wv_var 4 n HS.out.so.wr (by have := HFN.out; omega) (by omega) (by omega) (by have := HS.out.so.len; have := HFK.out; simp only [List.nil_append]; omega) (by have := HS.out.so.size; have := HFK.out; simp only [List.nil_append]; omega)).mono ?_; intro e w5 hpost
  obtain ⟨qs5, P5, rfl, hs⟩ := HS.out.next hpost
  have HSN := Lib.hid hs
  clear hpost hs HS xc
  have HS := HSN
  clear HSN
  have xc : w5.cell? ⟨bx, 4, none⟩ = some (.string U) := HS.out.cell rfl
  go_wp2_with fail
  refine (wv_rest U u scF.tk 32 HS.out.so.wr HU.out.symm (by have := HFK.out; omega) (by have := HS.out.so.len; have := HFK.out; simp only [List.nil_append]; omega) (by have := HS.out.so.size; have := HFK.out; simp only [List.nil_append]; omega) HET.out (fun r w => sctakes_any r w)).mono ?_; intro e w6 hpost
  obtain ⟨qs6, P6, rfl, hs⟩ := HS.out.next hpost
  have HSN := Lib.hid hs
  clear hpost hs HS xc
  have HS := HSN
  clear HSN
  go_wp2_with fail
  obtain ⟨vo, P0, hwa, _⟩ := HS.out.so.wr
  have HWA := Lib.hid hwa
  have HLB := Lib.hid (And.intro HS.out.so.len HS.out.so.size)
  clear hwa
  refine (wend_any p d vo _ _ P0 _ HWA (by have := HLB.out.1; simp only [List.nil_append]; (have := HFK.out; omega)) (by have := HLB.out.2; simp only [List.nil_append]; (have := HFK.out; omega))).mono ?_; rintro e w9 ⟨hb9, hcase⟩
  have HB9 := Lib.hid (mar_below HB0.out HPE.out HB1.out HS.out.so.upd HP1.out hb9)
  have HBY := Lib.hid HS.out.so.bytes
  obtain ⟨bb, hbb⟩ : ∃ bb, (decide (d < 0) || !(((((true && uvalid a) && uvalid b) && kmays l d) && true) && munkOk scF.tk u d)) = bb := ⟨_, rfl⟩
  rw [hbb] at hcase HBY
  have HBB : Hid (mx = !bb) := Lib.hid (by
    rw [← HMX.out, ← hbb]
    show (decide (0 ≤ d) && (((uvalid a && uvalid b) && kmays l d) && munkOk scF.tk u d)) = _
    by_cases h : d < 0
    · rw [decide_eq_true h, decide_eq_false (by omega : ¬ 0 ≤ d)]; rfl
    · rw [decide_eq_false h, decide_eq_true (by omega : 0 ≤ d)]
      simp only [Bool.true_and, Bool.and_true, Bool.false_or, Bool.not_not])
  clear hb9 hbb
  cases bb with
  | true =>
    rw [if_pos rfl] at hcase
    obtain ⟨v, rfl, hec⟩ := hcase
    obtain ⟨T', y, rfl⟩ := hec.iface
    have HEC := Lib.hid hec
    clear hec
    go_wp2_with fail
    go_ret2
    refine ⟨HB9.out, ?_⟩
    rw [HBB.out, if_neg (by simp)]
    exact ⟨_, rfl, HEC.out⟩
  | false =>
    rw [if_neg (by simp)] at hcase
    subst hcase
    have hq9 := HBY.out rfl
    rw [List.nil_append, hq9]
    have hoe : ([] ++ (wbytesP 1 a).flatten ++ (wbytesP 2 b).flatten ++ kouts 3 l ++ (if n = 0 then [] else (rN 4 n).raw) ++ u : List UInt8) = ox := by
      rw [← HOX.out]
      unfold sc_out
      dsimp only
      rw [wbytesP_raw 1 (by omega) (by omega), wbytesP_raw 2 (by omega) (by omega), List.nil_append]
    rw [hoe]
    clear hoe hq9
    go_wp2_with fail
    go_ret2
    refine ⟨HB9.out, ?_⟩
    rw [HBB.out, if_pos (show (!false) = true from rfl)]
    rfl
end Go.Proofs.YtbdbmkmebeemoaaGreatDoor

namespace Go.Proofs.YtbdbmkmebeemoaaGreatDoor
open Go.RowKit

theorem text_out (num : Nat) (a : List UInt8) : ((textF num).out a).flatMap Rec.raw = if a = [] then [] else (rB num a).raw := by
  show (if a = [] then [] else [rB num a]).flatMap Rec.raw = _
  split
  · rfl
  · simp
theorem var_out (num n : Nat) : ((var32F num).out n).flatMap Rec.raw = if n = 0 then [] else (rN num n).raw := by
  show (if n = 0 then [] else [rN num n]).flatMap Rec.raw = _
  split
  · rfl
  · simp
theorem out_and (A B : Fld) (a : A.σ) (b : B.σ) : ((A.and B).out (a, b)).flatMap Rec.raw = (A.out a).flatMap Rec.raw ++ (B.out b).flatMap Rec.raw := List.flatMap_append
theorem sc_outF (a b : List UInt8) (l : List KV) (n : Nat) (u : List UInt8) : (scF.out (a, b, l, n)).flatMap Rec.raw ++ u = sc_out ((a, b, l, n), u) := by
  have h3 := out_and (listF 3 kvS) (var32F 4) l n
  rw [kvs_out, var_out] at h3
  have h2 := out_and (textF 2) ((listF 3 kvS).and (var32F 4)) b (l, n)
  rw [h3, text_out] at h2
  have h1 := out_and (textF 1) ((textF 2).and ((listF 3 kvS).and (var32F 4))) a (b, l, n)
  rw [h2, text_out] at h1
  rw [show (scF.out (a, b, l, n)).flatMap Rec.raw = _ from h1]
  show _ = (if a = [] then [] else (rB 1 a).raw) ++ (if b = [] then [] else (rB 2 b).raw) ++ kouts 3 l ++ (if n = 0 then [] else (rN 4 n).raw) ++ u
  simp only [List.append_assoc]
theorem sc_mayF (d : Int) (a b : List UInt8) (l : List KV) (n : Nat) (u : List UInt8) : sc_may d ((a, b, l, n), u) = (decide (0 ≤ d) && (scF.may d (a, b, l, n) && munkOk scF.tk u d)) := by
  have h : scF.may d (a, b, l, n) = ((uvalid a && uvalid b) && kmays l d) := by
    show (uvalid a && (uvalid b && ((listF 3 kvS).may d l && true))) = _
    rw [kvs_may, Bool.and_true, Bool.and_assoc]
  rw [h]; rfl
theorem sc_fitF {a b : List UInt8} {l : List KV} {n : Nat} {u : List UInt8} (h : sc_fit ((a, b, l, n), u)) : scF.fit (a, b, l, n) ∧ scF.wt (a, b, l, n) ≤ 1000000 := by
  obtain ⟨h3, h4, h5⟩ := h
  dsimp only at h3 h4 h5
  refine ⟨⟨by show a.length ≤ _; omega, by show b.length ≤ _; omega, kvs_fit2 h3, h4⟩, ?_⟩
  show a.length + (b.length + ((listF 3 kvS).wt l + 0)) ≤ _
  rw [kvs_wt]; omega
section
variable {F : Fld}
/-- read and written, of any message -/
theorem fld_back (hF : F.Ok) {s : F.σ} {u : List UInt8} {d : Int} (hf : F.fit s) (hw : F.wt s ≤ 1000000) (hd : 0 ≤ d) (hm : F.may d s = true) (hu : munkOk F.tk u d = true) : mread F.tk (F.step d) F.z ((F.out s).flatMap Rec.raw ++ u) d = .ok (s, u) :=
  Fld.msg_back hF hf hw hd (hF.recs s hf hw) (fun _ => rfl) d hm hd hu
/-- errors do not look at what was read before -/
def Fld.Free (F : Fld) : Prop := ∀ d s s' r y, F.step d s r = .ok y → ∃ y', F.step d s' r = .ok y'
theorem Fld.Free.rd (h : F.Free) {d : Int} : ∀ (rs : List Rec) (s s' : F.σ) {y : F.σ}, F.rd d s rs = .ok y → ∃ y', F.rd d s' rs = .ok y'
  | [], _, s', _, _ => ⟨s', rfl⟩
  | r :: rs, s, s', y, hy => by
    have hy : mfold F.tk (F.step d) s (r :: rs) = .ok y := hy
    show ∃ y', mfold F.tk (F.step d) s' (r :: rs) = .ok y'
    simp only [mfold] at hy ⊢
    split at hy
    · rename_i hk
      rw [if_pos hk]
      split at hy
      · cases hy
      · rename_i s1 hs
        obtain ⟨s2, h2⟩ := h d s s' r s1 hs
        rw [h2]
        exact Fld.Free.rd h rs s1 s2 hy
    · rename_i hk
      rw [if_neg hk]
      exact Fld.Free.rd h rs s s' hy
end
theorem Fld.Free.and {A B : Fld} (hA : A.Free) (hB : B.Free) : (A.and B).Free := fun d s s' r y hy => by
  obtain ⟨a, b⟩ := s
  obtain ⟨a', b'⟩ := s'
  cases hk : A.tk r with
  | true =>
    cases ha : A.step d a r with
    | error c => rw [Fld.and_1no hk ha] at hy; cases hy
    | ok a1 =>
      obtain ⟨a2, h2⟩ := hA d a a' r a1 ha
      exact ⟨_, Fld.and_1ok hk h2⟩
  | false =>
    cases hb : B.step d b r with
    | error c => rw [Fld.and_2no hk hb] at hy; cases hy
    | ok b1 =>
      obtain ⟨b2, h2⟩ := hB d b b' r b1 hb
      exact ⟨_, Fld.and_2ok hk h2⟩
theorem sc_back {a b : List UInt8} {l : List KV} {n : Nat} {u : List UInt8} {d : Int} (hf : sc_fit ((a, b, l, n), u)) (hm : sc_may d ((a, b, l, n), u) = true) : scrd (sc_out ((a, b, l, n), u)) d = .ok ((a, b, l, n), u) := by
  rw [sc_mayF] at hm
  simp only [Bool.and_eq_true, decide_eq_true_eq] at hm
  have h := fld_back scF_ok (s := (a, b, l, n)) (u := u) (sc_fitF hf).1 (sc_fitF hf).2 hm.1 hm.2.1 hm.2.2
  exact (congrArg (fun t => mread (σ := List UInt8 × List UInt8 × List KV × Nat) scF.tk (scF.step d) scF.z t d) (sc_outF a b l n u)).symm.trans h
end Go.Proofs.YtbdbmkmebeemoaaGreatDoor
namespace Go.Proofs.YtbdbmkmebeemoaaGreatDoor
open Go.RowKit

theorem row5 {w : World} {g : Nat} {c0 c1 c2 c3 c4 : Value} {T : TypeId} {fr : Nat × Nat} (h : w.heap[g]? = some (.cells #[c0, c1, c2, c3, c4] T fr)) : w.cell? ⟨g, 0, none⟩ = some c0 ∧ w.cell? ⟨g, 1, none⟩ = some c1 ∧ w.cell? ⟨g, 2, none⟩ = some c2 ∧ w.cell? ⟨g, 3, none⟩ = some c3 ∧ w.cell? ⟨g, 4, none⟩ = some c4 := ⟨row_cell h (j := 0) rfl, row_cell h (j := 1) rfl, row_cell h (j := 2) rfl, row_cell h (j := 3) rfl, row_cell h (j := 4) rfl⟩
theorem first_rd : scrd [10, 1, 97] 0 = .ok (([97], [], [], 0), []) := by
  have h := sc_back (a := [97]) (b := []) (l := []) (n := 0) (u := []) (d := 0) ⟨by rw [ksfit]; trivial, by show 0 < _; omega, by rw [ksw]; decide⟩ (by kernel_rfl)
  rwa [show sc_out (([97], [], [], 0), []) = [10, 1, 97] by kernel_rfl] at h
theorem first_mar (w : World) : Calls Tryz.prog 16 #[.agg #[.string ⟨#[97]⟩, .string ⟨#[]⟩, .slice none 0 0, .int .u32 0, .string ⟨#[]⟩], .int .i64 0] w fun e w' => e = .returned (.tuple #[.string ⟨#[10, 1, 97]⟩, .nilIface]) ∧ Below w.heap.size w w' := by
  refine (sc_marshal_if (([97], [], [], 0), []) (Lib.hid fun h => absurd rfl h) [.string ⟨#[97]⟩, .string ⟨#[]⟩, .slice none 0 0, .int .u32 0, .string ⟨#[]⟩] (fun _ => False) 0 w ⟨by rw [ksfit]; trivial, by show 0 < _; omega, by rw [ksw]; decide⟩ ⟨none, 0, rfl, by rw [KRels]; trivial⟩ (by omega)).mono ?_
  rintro e w' ⟨hb, h⟩
  rw [show sc_may 0 (([97], [], [], 0), []) = true by kernel_rfl, if_pos rfl, show sc_out (([97], [], [], 0), []) = [10, 1, 97] by kernel_rfl] at h
  exact ⟨h, hb⟩
theorem first_marR (w : World) : Calls Tryz.prog 26 #[.agg #[.slice none 0 0, .int .u32 1, .string ⟨#[]⟩], .int .i64 0] w fun e w' => e = .returned (.tuple #[.string ⟨#[16, 1]⟩, .nilIface]) ∧ Below w.heap.size w w' := by
  refine (rs_marshal_if (([], 1), []) (Lib.hid fun h => absurd rfl h) [.slice none 0 0, .int .u32 1, .string ⟨#[]⟩] (fun _ => False) 0 w ⟨by rw [ksfit]; trivial, by show 1 < _; omega, by rw [ksw]; decide⟩ ⟨none, 0, rfl, by rw [KRels]; trivial⟩ (by omega)).mono ?_
  rintro e w' ⟨hb, h⟩
  rw [show rs_may 0 (([], 1), []) = true by kernel_rfl, if_pos rfl, show rs_out (([], 1), []) = [16, 1] by kernel_rfl] at h
  exact ⟨h, hb⟩
theorem first_no3 {r : Rec} (hr : ∀ rs, wall (⟨#[10, 1, 97]⟩ : ByteArray).data.toList 0 = .ok rs → r ∈ rs) (h3 : r.num = 3) : UKey := by
  have h := hr [⟨1, 2, 0, [97], [10, 1, 97]⟩] (by kernel_rfl)
  rw [List.mem_singleton.1 h] at h3
  exact absurd h3 (by decide)
set_option maxRecDepth 1000000 in
set_option maxHeartbeats 8000000 in
theorem first10 (w : World) : Calls Tryz.prog 9 #[] w fun e w' => e = .returned (.bool true) ∧ Below w.heap.size w w' := by
  have HUN := Lib.hid (fun w' => unsc_if ⟨#[10, 1, 97]⟩ 0 (Lib.hid fun r hr h3 => first_no3 hr h3) w' (by decide) (by omega))
  rw [show (⟨#[10, 1, 97]⟩ : ByteArray).data.toList = [10, 1, 97] from rfl, first_rd] at HUN
  go_enter Tryz.func9, Tryz.ntmps9
  go_wp2_with fail
  refine (first_mar w).mono ?_; rintro e w1 ⟨rfl, hb1⟩
  have HB1 := Lib.hid hb1
  clear hb1
  go_wp2_with fail
  refine (HUN.out w1).mono ?_; rintro e w2 ⟨hb2, cs, rfl, lo, lc, rfl, _⟩
  have HB2 := Lib.hid (below_step HB1.out hb2)
  clear hb2
  dsimp only [strV]
  go_wp2_with fail
  obtain ⟨bl, hbl⟩ : ∃ b, w2.heap.size = b := ⟨_, rfl⟩
  obtain ⟨W3, hW⟩ : ∃ W, w2.alloc (.cells #[.string ⟨#[97]⟩, .string ⟨#[]⟩, .slice lo 0 lc, .int .u32 0, .string ⟨#[]⟩] 26) = W := ⟨_, rfl⟩
  have hb3 : Below w2.heap.size w2 W3 := by rw [← hW]; exact below_new _ _
  have hr : W3.heap[bl]? = some (.cells #[.string ⟨#[97]⟩, .string ⟨#[]⟩, .slice lo 0 lc, .int .u32 0, .string ⟨#[]⟩] 26 (0, 0)) := by rw [← hW, ← hbl]; exact new_row _ _ _
  have HB3 := Lib.hid (below_step HB2.out hb3)
  rw [hW, hbl]
  clear hW hbl hb3
  refine (first_marR W3).mono ?_; rintro e w4 ⟨rfl, hb4⟩
  have HB4 := Lib.hid (below_step HB3.out hb4)
  have hx0 : w4.cell? ⟨bl, 0, none⟩ = some (.string ⟨#[97]⟩) := row_cell ((hb4.block _ (row_lt hr)).trans hr) (j := 0) rfl
  clear hb4 hr
  go_wp2_with fail
  go_ret
  exact ⟨rfl, HB4.out⟩
end Go.Proofs.YtbdbmkmebeemoaaGreatDoor

namespace Go.Proofs.YtbdbmkmebeemoaaGreatDoor
open Go.RowKit

mutual
theorem vlim_of : ∀ (x : Val), vw x ≤ 9223372036854775807 → vlim x
  | .mk k s b n l m i u, h => by
    rw [vw] at h
    rw [vlim]
    have h1 := vsw_len l
    have h2 := ksw_len m
    exact ⟨by omega, by omega, vslim_ofw l (by omega), kslim_ofw m (by omega)⟩
theorem klim_of : ∀ (x : KV), kw x ≤ 9223372036854775807 → klim x
  | .mk key has v u, h => by
    rw [kw] at h
    rw [klim]
    exact vlim_of v (by omega)
theorem vslim_ofw : ∀ (l : List Val), vsw l ≤ 9223372036854775807 → vslim l
  | [], _ => by rw [vslim]; trivial
  | x :: l, h => by
    rw [vsw] at h
    rw [vslim]
    exact ⟨vlim_of x (by omega), vslim_ofw l (by omega)⟩
theorem kslim_ofw : ∀ (l : List KV), ksw l ≤ 9223372036854775807 → kslim l
  | [], _ => by rw [kslim]; trivial
  | x :: l, h => by
    rw [ksw] at h
    rw [kslim]
    exact ⟨klim_of x (by omega), kslim_ofw l (by omega)⟩
end
theorem rN_len20 (num n : Nat) : (rN num n).raw.length ≤ 20 := by
  show (vput (8 * num + 0) ++ vput n).length ≤ 20
  rw [List.length_append]
  have := vput_le10 (8 * num + 0)
  have := vput_le10 n
  omega
theorem sc_lim {x : (List UInt8 × List UInt8 × List KV × Nat) × List UInt8} (h : sc_fit x) : kslim x.1.2.2.1 ∧ x.1.2.2.1.length ≤ 9223372036854775807 ∧ (sc_out x).length ≤ 500000 := by
  obtain ⟨⟨a, b, l, n⟩, u⟩ := x
  obtain ⟨_, _, h3⟩ := h
  dsimp only at h3
  have h1 := ksw_len l
  refine ⟨kslim_ofw l (by omega), by show l.length ≤ _; omega, ?_⟩
  show ((if a = [] then [] else (rB 1 a).raw) ++ (if b = [] then [] else (rB 2 b).raw) ++ kouts 3 l ++ (if n = 0 then [] else (rN 4 n).raw) ++ u).length ≤ _
  have h4 := kouts_le 3 (by omega) l
  have h5 := rN_len20 4 n
  have h6 := rB_len20 1 a
  have h7 := rB_len20 2 b
  simp only [List.length_append]
  have e1 : (if a = [] then [] else (rB 1 a).raw).length ≤ 20 + a.length := by
    split
    · simp
    · omega
  have e2 : (if b = [] then [] else (rB 2 b).raw).length ≤ 20 + b.length := by
    split
    · simp
    · omega
  have e3 : (if n = 0 then [] else (rN 4 n).raw).length ≤ 20 := by
    split
    · simp
    · omega
  omega
end Go.Proofs.YtbdbmkmebeemoaaGreatDoor

namespace Go.Proofs.YtbdbmkmebeemoaaGreatDoor
open Go.RowKit
def RowT (T : TypeId) (w : World) (g : Nat) (c : List Value) : Prop := w.heap[g]? = some (.cells c.toArray T (0, 0))
set_option maxRecDepth 1000000 in
set_option maxHeartbeats 8000000 in
theorem sc_room (x : (List UInt8 × List UInt8 × List KV × Nat) × List UInt8) (cs : List Value) (P : Nat → Prop) (w : World) (room : Int) (hlim : kslim x.1.2.2.1) (hfit : ksfit x.1.2.2.1) (hlen : x.1.2.2.1.length ≤ 9223372036854775807) (ha : x.1.1.length ≤ 9223372036854775807) (hb : x.1.2.1.length ≤ 9223372036854775807) (hu : x.2.length ≤ 9223372036854775807) (hr : ScRel w P x cs) (hro : -1 ≤ room ∧ room ≤ 1000000) :
 Calls Tryz.prog 14 #[.agg cs.toArray, .int .i64 room] w (RmPost room (60 + x.1.1.length + x.1.2.1.length + x.2.length + ksw x.1.2.2.1) w) := by
 obtain ⟨lo, lc, rfl, hr⟩ := hr
 obtain ⟨⟨a, b, l, n⟩, u⟩ := x
 have HR := Lib.hid hr
 have HLIM := Lib.hid hlim
 have HFIT := Lib.hid hfit
 have HLEN := Lib.hid hlen
 have HRO := Lib.hid hro
 clear hr hlim hfit hlen hro
 dsimp only [strV]
 obtain ⟨A, eA⟩ : ∃ X : ByteArray, (⟨a.toArray⟩ : ByteArray) = X := ⟨_, rfl⟩
 have HAS : Hid (A.size = a.length) := Lib.hid (by rw [← eA]; rfl)
 have HAB : Hid (A.size ≤ 9223372036854775807) := Lib.hid (by rw [HAS.out]; exact ha)
 obtain ⟨B, eB⟩ : ∃ X : ByteArray, (⟨b.toArray⟩ : ByteArray) = X := ⟨_, rfl⟩
 have HBS : Hid (B.size = b.length) := Lib.hid (by rw [← eB]; rfl)
 have HBB : Hid (B.size ≤ 9223372036854775807) := Lib.hid (by rw [HBS.out]; exact hb)
 obtain ⟨U, eU⟩ : ∃ X : ByteArray, (⟨u.toArray⟩ : ByteArray) = X := ⟨_, rfl⟩
 have HUS : Hid (U.size = u.length) := Lib.hid (by rw [← eU]; rfl)
 have HUB : Hid (U.size ≤ 9223372036854775807) := Lib.hid (by rw [HUS.out]; exact hu)
 rw [eA, eB, eU]
 clear eA ha eB hb eU hu
 obtain ⟨W, hW⟩ : ∃ W, w.alloc (.cells #[.string A, .string B, .slice lo l.length lc, .int .u32 (n : Int), .string U] 26) = W := ⟨_, rfl⟩
 have HB0 : Hid (Below w.heap.size w W) := Lib.hid (by rw [← hW]; exact below_new _ _)
 have HX0 : Hid (RowT 26 W w.heap.size [.string A, .string B, .slice lo l.length lc, .int .u32 (n : Int), .string U]) := Lib.hid (by rw [← hW]; exact heap_alloc_new w _)
 have HW := Lib.hid hW
 clear hW
 go_enter Tryz.func14, Tryz.ntmps14
 go_wp2_with fail
 rw [HW.out]
 obtain ⟨D, hD⟩ : ∃ D, W.drew = D := ⟨_, rfl⟩
 have HBD : Hid (Below W.heap.size W D) := Lib.hid (by rw [← hD]; exact (Below.refl _ _).drew)
 have hS : RowT 26 D w.heap.size [.string A, .string B, .slice lo l.length lc, .int .u32 (n : Int), .string U] := (HBD.out.block _ (row_lt HX0.out)).trans HX0.out
 have hne : Nonempty {w' : World // RowT 26 w' w.heap.size [.string A, .string B, .slice lo l.length lc, .int .u32 (n : Int), .string U]} := ⟨⟨_, hS⟩⟩
 have el : ∀ a : World, RowT 26 a w.heap.size [.string A, .string B, .slice lo l.length lc, .int .u32 (n : Int), .string U] → a.cell? ⟨w.heap.size, 2, none⟩ = some (.slice lo l.length lc) := fun a ha => row_cell ha (j := 2) rfl
 have ea : ∀ a : World, RowT 26 a w.heap.size [.string A, .string B, .slice lo l.length lc, .int .u32 (n : Int), .string U] → a.cell? ⟨w.heap.size, 0, none⟩ = some (.string A) := fun a ha => row_cell ha (j := 0) rfl
 have eb : ∀ a : World, RowT 26 a w.heap.size [.string A, .string B, .slice lo l.length lc, .int .u32 (n : Int), .string U] → a.cell? ⟨w.heap.size, 1, none⟩ = some (.string B) := fun a ha => row_cell ha (j := 1) rfl
 have eu : ∀ a : World, RowT 26 a w.heap.size [.string A, .string B, .slice lo l.length lc, .int .u32 (n : Int), .string U] → a.cell? ⟨w.heap.size, 4, none⟩ = some (.string U) := fun a ha => row_cell ha (j := 4) rfl
 have HRD := Lib.hid (HR.out.below (below_step HB0.out HBD.out))
 refine wp_region_seq (S := fun w' => RowT 26 w' w.heap.size [.string A, .string B, .slice lo l.length lc, .int .u32 (n : Int), .string U]) [(0, true), (1, true), (2, true), (3, true), (4, true), (5, true), (7, true), (8, true), (9, true), (11, true), (12, true), (13, true), (6, false), (10, false), (14, false), (15, false), (16, true)] (by kernel_rfl) (by kernel_rfl) (by kernel_rfl) (by kernel_rfl) (by rw [hD]; exact hS) ?_
 rw [hD]
 clear hD
 refine seq_take _ rfl (fun K2 hK => ?_); go_simp; (first | refine hK _ ?_ | refine ⟨_, fun _ _ => rfl, hK _ ?_⟩); clear hK K2
 refine seq_take _ rfl (fun K2 hK => ?_); go_simp
 refine ⟨.slice lo l.length lc, fun a ha => by rw [el a ha]; rfl, hK _ ?_⟩; clear hK K2
 refine seq_take _ rfl (fun K2 hK => ?_); go_simp; (first | refine hK _ ?_ | refine ⟨_, fun _ _ => rfl, hK _ ?_⟩); clear hK K2
 refine seq_take _ rfl (fun K2 hK => ?_); go_simp; (first | refine hK _ ?_ | refine ⟨_, fun _ _ => rfl, hK _ ?_⟩); clear hK K2
 refine seq_take _ rfl (fun K2 hK => ?_); go_simp
 refine ⟨.string A, fun a ha => by rw [ea a ha]; rfl, hK _ ?_⟩; clear hK K2
 refine seq_take _ rfl (fun K2 hK => ?_); go_simp; (first | refine hK _ ?_ | refine ⟨_, fun _ _ => rfl, hK _ ?_⟩); clear hK K2
 refine seq_take _ rfl (fun K2 hK => ?_); go_simp; (first | refine hK _ ?_ | refine ⟨_, fun _ _ => rfl, hK _ ?_⟩); clear hK K2
 refine seq_take _ rfl (fun K2 hK => ?_); go_simp
 refine ⟨.string B, fun a ha => by rw [eb a ha]; rfl, hK _ ?_⟩; clear hK K2
 refine seq_take _ rfl (fun K2 hK => ?_); go_simp; (first | refine hK _ ?_ | refine ⟨_, fun _ _ => rfl, hK _ ?_⟩); clear hK K2
 refine seq_take _ rfl (fun K2 hK => ?_); go_simp; (first | refine hK _ ?_ | refine ⟨_, fun _ _ => rfl, hK _ ?_⟩); clear hK K2
 refine seq_take _ rfl (fun K2 hK => ?_); go_simp
 refine ⟨.string U, fun a ha => by rw [eu a ha]; rfl, hK _ ?_⟩; clear hK K2
 refine seq_take _ rfl (fun K2 hK => ?_); go_simp; (first | refine hK _ ?_ | refine ⟨_, fun _ _ => rfl, hK _ ?_⟩); clear hK K2
 refine seq_come _ rfl (fun K2 hK => ?_); go_simp
 refine (roomtake_any room A.size D HRO.out HAB.out).mono ?_; rintro e w4 ⟨rfl, r1, rfl, HR1⟩
 have HB1 := Lib.hid (HR1.out.le HRO.out)
 go_simp; refine hK.out _ _ hS ?_; clear hK K2
 refine seq_come _ rfl (fun K2 hK => ?_); go_simp
 refine (roomtake_any r1 B.size D HB1.out HBB.out).mono ?_; rintro e w4 ⟨rfl, r2, rfl, HR2⟩
 have HB2 := Lib.hid (HR2.out.le HB1.out)
 go_simp; refine hK.out _ _ hS ?_; clear hK K2
 refine seq_come _ rfl (fun K2 hK => ?_); go_simp
 refine (roomtake_any r2 U.size D HB2.out HUB.out).mono ?_; rintro e w4 ⟨rfl, r3, rfl, HR3⟩
 have HB3 := Lib.hid (HR3.out.le HB2.out)
 go_simp; refine hK.out _ _ hS ?_; clear hK K2
 refine seq_come _ rfl (fun K2 hK => ?_); go_simp
 refine (roomks_any l lo lc P D 40 r3 HLEN.out HLIM.out HFIT.out HRD.out (by omega) HB3.out).mono ?_; rintro e w5 ⟨hb5, r9, rfl, HR9⟩
 have HB5 := Lib.hid (below_step (below_step HB0.out HBD.out) hb5)
 go_simp; refine hK.out _ _ ((hb5.block _ (row_lt hS)).trans hS) ?_; clear hK K2
 clear hb5
 refine seq_take _ rfl (fun K2 hK => ?_); go_simp; (first | refine hK _ ?_ | refine ⟨_, fun _ _ => rfl, hK _ ?_⟩); clear hK K2
 refine seq_done ?_
 go_wp2_with fail
 go_ret
 refine ⟨HB5.out, r9, rfl, Lib.hid ?_⟩
 have h1 := (((HR1.out).then HR2.out).then HR3.out).then HR9.out
 have sa := HAS.out
 have sb := HBS.out
 have su := HUS.out
 unfold RoomOk at h1 ⊢
 try dsimp only
 omega
end Go.Proofs.YtbdbmkmebeemoaaGreatDoor
namespace Go.Proofs.YtbdbmkmebeemoaaGreatDoor
open Go.RowKit Go.ChangeShapes Go.WideShapes Go.ChangeAt Go.Deep
set_option maxRecDepth 1000000 in
theorem sc_shape : ∃ f0 f1 f2 f3 f4 : Field, Tryz.prog.underlying 26 = some (.struct #[f0, f1, f2, f3, f4]) ∧ Tryz.prog.cellsOf 26 = 5 ∧
  (f0.offset = 0 ∧ f1.offset = 1 ∧ f2.offset = 2 ∧ f3.offset = 3 ∧ f4.offset = 4) ∧
  (Tryz.prog.cellsOf f0.type = 1 ∧ Tryz.prog.cellsOf f1.type = 1 ∧ Tryz.prog.cellsOf f2.type = 1 ∧ Tryz.prog.cellsOf f3.type = 1 ∧ Tryz.prog.cellsOf f4.type = 1) ∧
  (Tryz.prog.underlying f0.type = some .string ∧ Tryz.prog.underlying f1.type = some .string ∧ Tryz.prog.underlying f2.type = some (.slice 78) ∧ Tryz.prog.underlying f3.type = some (.int .u32) ∧ Tryz.prog.underlying f4.type = some .string) :=
 ⟨_, _, _, _, _, Tryz.underlying26, by kernel_rfl, ⟨by kernel_rfl, by kernel_rfl, by kernel_rfl, by kernel_rfl, by kernel_rfl⟩, ⟨by kernel_rfl, by kernel_rfl, by kernel_rfl, by kernel_rfl, by kernel_rfl⟩, ⟨by kernel_rfl, by kernel_rfl, by kernel_rfl, by kernel_rfl, by kernel_rfl⟩⟩
set_option maxRecDepth 1000000 in
theorem open_Sco {H : Type} {enc : TypeId × Value → H} {W : World} {sp : Nat → Bool} {base : Nat} {v : Value} {d : DataW H} {p : List MemPlace} (hv : Value.okWide Tryz.prog W .any base 26 v) (h : DataW.Trod enc Tryz.prog W 0 sp true 26 v d p) :
  ∃ (x : (List UInt8 × List UInt8 × List KV × Nat) × List UInt8) (cs : List Value), v = .agg cs.toArray ∧ ScRel W (fun k => k < W.heap.size) x cs ∧ kslim x.1.2.2.1 ∧ ksfit x.1.2.2.1 ∧ x.1.2.2.1.length ≤ 9223372036854775807 ∧ x.1.2.2.2 < 4294967296 ∧ x.1.1.length ≤ 9223372036854775807 ∧ x.1.2.1.length ≤ 9223372036854775807 ∧ x.2.length ≤ 9223372036854775807 := by
 obtain ⟨cs, rfl, hsz⟩ := okWide_struct Tryz.underlying26 hv
 obtain ⟨fuel, hf⟩ := h
 obtain ⟨f0, f1, f2, f3, f4, hT, ce, ⟨o0, o1, o2, o3, o4⟩, ⟨c0, c1, c2, c3, c4⟩, ⟨t0, t1, t2, t3, t4⟩⟩ := sc_shape
 obtain ⟨xs, n', hf', _, hl, hlen, hx⟩ := DataW.trod_struct hT hf
 rw [ce] at hl
 obtain ⟨V0, V1, V2, V3, V4, hcs⟩ : ∃ V0 V1 V2 V3 V4, cs.toList = [V0, V1, V2, V3, V4] := by
  match cs.toList, hl with
  | [q0, q1, q2, q3, q4], _ => exact ⟨q0, q1, q2, q3, q4, rfl⟩
 have hce : (Value.agg cs).cells.toList = [V0, V1, V2, V3, V4] := hcs
 match xs, hlen with
 | [y0, y1, y2, y3, y4], _ =>
 have g0 := hx 0 f0 rfl
 have g1 := hx 1 f1 rfl
 have g2 := hx 2 f2 rfl
 have g3 := hx 3 f3 rfl
 have g4 := hx 4 f4 rfl
 rw [o0, c0, hce] at g0
 rw [o1, c1, hce] at g1
 rw [o2, c2, hce] at g2
 rw [o3, c3, hce] at g3
 rw [o4, c4, hce] at g4
 obtain ⟨a, e0, _, w0⟩ := DataW.trod_string t0 g0
 obtain ⟨b, e1, _, w1⟩ := DataW.trod_string t1 g1
 obtain ⟨lo, lc, l, e2, b2, r2, m2, n2⟩ := kslice_tree t2 (fun q hq => (tree_all (enc := enc) (W := W) (sp := sp) (q + 1) q (by omega)).2) g2
 obtain ⟨z, e3, _, w3⟩ := DataW.trod_int t3 g3
 obtain ⟨u, e4, _, w4⟩ := DataW.trod_string t4 g4
 simp only [List.drop_zero, List.drop_succ_cons, List.take_succ_cons, List.take_zero, List.cons.injEq, and_true] at e0 e1 e2 e3 e4
 subst e0 e1 e2 e3 e4
 simp [Lit.wf, IntKind.min, IntKind.max, IntKind.signed, IntKind.bits] at w3
 obtain ⟨k, rfl⟩ : ∃ k : Nat, z = (k : Int) := ⟨z.toNat, by omega⟩
 have w0' : a.size ≤ 9223372036854775807 := w0
 have w1' : b.size ≤ 9223372036854775807 := w1
 have w4' : u.size ≤ 9223372036854775807 := w4
 refine ⟨((a.data.toList, b.data.toList, l, k), u.data.toList), cs.toList, by simp, ⟨lo, lc, by rw [hcs]; simp [strV], r2⟩, m2, n2, b2, by show k < _; omega, by simpa using w0', by simpa using w1', by simpa using w4'⟩
end Go.Proofs.YtbdbmkmebeemoaaGreatDoor

namespace Go.Proofs.YtbdbmkmebeemoaaGreatDoor
open Go.RowKit

theorem kmar_any : KMar := fun x cs Q d w hf hr hd hsz => kmarshal_any x cs Q d w hf hr hd hsz
theorem sc_marshal (x : (List UInt8 × List UInt8 × List KV × Nat) × List UInt8) (cs : List Value) (Q : Nat → Prop) (d : Int) (w : World) (hf : sc_fit x) (hr : ScRel w Q x cs) (hd : -9223372036854775808 ≤ d ∧ d ≤ 9223372036854775807) :
    Calls Tryz.prog 16 #[.agg cs.toArray, .int .i64 d] w (MarPost (sc_may d x) (sc_out x) w) := sc_marshal_if x (Lib.hid fun _ => kmar_any) cs Q d w hf hr hd
set_option maxRecDepth 1000000 in
set_option maxHeartbeats 8000000 in
theorem sc_mayc (x : (List UInt8 × List UInt8 × List KV × Nat) × List UInt8) (cs : List Value) (Q : Nat → Prop) (d : Int) (w : World) (hf : sc_fit x) (hr : ScRel w Q x cs) (hd : -9223372036854775808 ≤ d ∧ d ≤ 9223372036854775807) :
 Calls Tryz.prog 17 #[.agg cs.toArray, .int .i64 d] w fun e w' => e = .returned (.bool (sc_may d x)) ∧ Below w.heap.size w w' := by
 have HM := Lib.hid (fun w' (hb : Below w.heap.size w w') => sc_marshal x cs Q d w' hf (scCel.upd (Upd.of_new (S := fun _ => False) hb) (fun _ _ h => h) (fun _ h => h) hr) hd)
 obtain ⟨lo1, lc1, rfl, _⟩ := hr
 obtain ⟨⟨a, b, l, n⟩, u⟩ := x
 obtain ⟨g, hg⟩ : ∃ g, sc_may d (((a, b, l, n), u)) = g := ⟨_, rfl⟩
 rw [hg] at HM ⊢
 dsimp only [strV] at HM ⊢
 obtain ⟨U, hU⟩ : ∃ U : ByteArray, (⟨u.toArray⟩ : ByteArray) = U := ⟨_, rfl⟩
 obtain ⟨A, hA⟩ : ∃ U : ByteArray, (⟨a.toArray⟩ : ByteArray) = U := ⟨_, rfl⟩
 obtain ⟨B, hB⟩ : ∃ U : ByteArray, (⟨b.toArray⟩ : ByteArray) = U := ⟨_, rfl⟩
 rw [hU, hA, hB] at HM ⊢
 clear hU hA hB
 obtain ⟨W, hW⟩ : ∃ W, w.alloc (.cells #[.string A, .string B, .slice lo1 l.length lc1, .int .u32 (n : Int), .string U] 26) = W := ⟨_, rfl⟩
 have HB0 : Hid (Below w.heap.size w W) := Lib.hid (by rw [← hW]; exact below_new _ _)
 have HW := Lib.hid hW
 clear hW hf hg hd
 go_enter Tryz.func17, Tryz.ntmps17
 go_wp2_with fail
 rw [HW.out]
 refine (HM.out W HB0.out).mono ?_; rintro e w1 ⟨hb, hcase⟩
 have HB1 := Lib.hid (below_step HB0.out hb)
 clear hb
 cases g with
 | true =>
  rw [if_pos rfl] at hcase
  subst hcase
  go_wp2_with fail
  go_ret
  exact ⟨rfl, HB1.out⟩
 | false =>
  rw [if_neg (by simp)] at hcase
  obtain ⟨v, rfl, hec⟩ := hcase
  obtain ⟨T', y, rfl⟩ := hec.iface
  clear hec
  go_wp2_with fail
  go_ret
  exact ⟨rfl, HB1.out⟩
end Go.Proofs.YtbdbmkmebeemoaaGreatDoor

namespace Go.Proofs.YtbdbmkmebeemoaaGreatDoor
open Go.RowKit

theorem kmays_ref (d : Int) (_ : 0 ≤ d) (l : List KV) : (l.all fun x => kmayD x (d - 1)) = kmays l d := by
  have h := kmays_all (d + 1) l
  rw [show d + 1 - 1 = d by omega, show d + 1 - 2 = d - 1 by omega] at h
  exact h.symm
theorem kmays_enq {l : List KV} {d : Int} (hw : ksw l ≤ 100000) (h : kmays l d = true) : kmays l 262144 = true := by
  induction l with
  | nil => rw [kmays]
  | cons x l ih =>
    rw [kmays] at h ⊢
    rw [ksw] at hw
    simp only [Bool.and_eq_true, decide_eq_true_eq] at h ⊢
    exact ⟨⟨by omega, kmay_enough x _ _ h.1.2 (by omega)⟩, ih (by omega) h.2⟩
theorem wvarP_raw (num : Nat) (h1 : 1 ≤ num) (h2 : num ≤ 536870911) (n : Nat) : (wvarP num n).flatten = if n = 0 then [] else (rN num n).raw := by
  unfold wvarP
  split
  · rfl
  · have e := wrec_raw (num := num) (ty := 0) h1 h2 (by omega) (vput n)
    have e2 : wrec (num : Int) 0 (vput n) = (rN num n).raw := e
    rw [e2]
    simp
theorem wvarP_len (num : Nat) (h1 : 1 ≤ num) (h2 : num ≤ 536870911) (n : Nat) : (wvarP num n).flatten.length ≤ 20 := by
  rw [wvarP_raw num h1 h2 n]
  split
  · simp
  · exact rN_len20 num n
set_option maxRecDepth 1000000 in
set_option maxHeartbeats 16000000 in
theorem scrmay_0 (a : List UInt8) (b : List UInt8) (l : List KV) (n : Nat) (u : List UInt8) (lo1 : Option Addr) (lc1 : Nat) (Q : Nat → Prop) (d : Int) (w : World) (hk1 : KRels w Q l lo1 0) (hf : ksfit l) (hw : ksw l ≤ 100000) (hu : u.length ≤ 1000000) (hal : a.length ≤ 1000000) (hbl : b.length ≤ 1000000) (hd : -9223372036854775808 ≤ d ∧ d ≤ 9223372036854775807) (hcd : ¬ 0 ≤ d) :
 Calls Tryz.prog 15 #[.agg #[.string ⟨a.toArray⟩, .string ⟨b.toArray⟩, .slice lo1 l.length lc1, .int .u32 (n : Int), .string ⟨u.toArray⟩], .int .i64 d] w fun e w' => e = .returned (.bool false) ∧ Below w.heap.size w w' := by
 obtain ⟨A, eA⟩ : ∃ X : ByteArray, (⟨a.toArray⟩ : ByteArray) = X := ⟨_, rfl⟩
 have HAD : Hid (A.data.toList = a) := Lib.hid (by rw [← eA])
 have HAZ : A.size ≤ 1000000 := by rw [← eA]; simp [ByteArray.size]; omega
 obtain ⟨B, eB⟩ : ∃ X : ByteArray, (⟨b.toArray⟩ : ByteArray) = X := ⟨_, rfl⟩
 have HBD : Hid (B.data.toList = b) := Lib.hid (by rw [← eB])
 have HBZ : B.size ≤ 1000000 := by rw [← eB]; simp [ByteArray.size]; omega
 obtain ⟨U, eU⟩ : ∃ X : ByteArray, (⟨u.toArray⟩ : ByteArray) = X := ⟨_, rfl⟩
 have HUD : Hid (U.data.toList = u) := Lib.hid (by rw [← eU])
 have HUZ : U.size ≤ 1000000 := by rw [← eU]; simp [ByteArray.size]; omega
 rw [eA, eB, eU]
 clear eA eB eU
 obtain ⟨bx, hbx⟩ : ∃ b, w.heap.size = b := ⟨_, rfl⟩
 obtain ⟨W, hW⟩ : ∃ W, w.alloc (.cells #[.string A, .string B, .slice lo1 l.length lc1, .int .u32 (n : Int), .string U] 26) = W := ⟨_, rfl⟩
 have hb : Below w.heap.size w W := by rw [← hW]; exact below_new _ _
 have hrow : W.heap[bx]? = some (.cells #[.string A, .string B, .slice lo1 l.length lc1, .int .u32 (n : Int), .string U] 26 (0, 0)) := by rw [← hW, ← hbx]; exact new_row _ _ _
 have H1 := Lib.hid (Fx.nil W)
 have H2 := Lib.hid (H1.out.base (hb))
 clear H1
 have H3 := Lib.hid (H2.out.row (hrow))
 clear H2
 have H4 := Lib.hid (H3.out.krels (hk1.below hb))
 clear H3
 have HW := Lib.hid hW
 have HBX := Lib.hid hbx
 have HF := Lib.hid hf
 have HWT := Lib.hid hw
 have HDD := Lib.hid hd
 have d1 : decide (d ≥ 0) = false := decide_eq_false hcd
 clear hW hbx hb hrow hk1 hf hw hd hu hcd hal hbl
 go_enter Tryz.func15, Tryz.ntmps15
 go_wp2_with fail
 rw [HW.out, HBX.out]
 obtain ⟨D, hD⟩ : ∃ D, W.drew = D := ⟨_, rfl⟩
 have hb : Below W.heap.size W D := by rw [← hD]; exact (Below.refl _ _).drew
 have H5 := Lib.hid (H4.out.below hb)
 clear hb H4
 have hne : Nonempty {w' : World // (fun w' => w'.heap[bx]? = some (.cells #[.string A, .string B, .slice lo1 l.length lc1, .int .u32 (n : Int), .string U] 26 (0, 0))) w'} := ⟨⟨_, H5.out.is.2.1⟩⟩
 refine wp_region_seq (S := fun w' => w'.heap[bx]? = some (.cells #[.string A, .string B, .slice lo1 l.length lc1, .int .u32 (n : Int), .string U] 26 (0, 0))) [(0, true), (1, true), (2, true), (3, true), (4, true), (5, false), (6, true), (7, true), (8, true), (9, true), (10, false), (11, true), (12, true), (13, true), (14, true), (15, true), (16, true), (17, false), (18, true), (19, true), (20, true), (21, true), (22, true), (23, false), (24, false), (25, true), (26, true)] (by kernel_rfl) (by kernel_rfl) (by kernel_rfl) (by kernel_rfl) (by rw [hD]; exact H5.out.is.2.1) ?_
 rw [hD]
 clear hD
 (refine seq_take _ rfl (fun KC hK => ?_); go_simp; (first | refine hK _ ?_ | refine ⟨_, fun _ _ => rfl, hK _ ?_⟩ | (refine ⟨undef, by rw [if_neg (by simp [undef])], ?_⟩; refine hK _ ?_)); clear hK KC)
 (refine seq_take _ rfl (fun KC hK => ?_); go_simp; (first | refine hK _ ?_ | refine ⟨_, fun _ _ => rfl, hK _ ?_⟩ | (refine ⟨undef, by rw [if_neg (by simp [undef])], ?_⟩; refine hK _ ?_)); clear hK KC)
 (refine seq_take _ rfl (fun KC hK => ?_); go_simp; (first | refine hK _ ?_ | refine ⟨_, fun _ _ => rfl, hK _ ?_⟩ | (refine ⟨undef, by rw [if_neg (by simp [undef])], ?_⟩; refine hK _ ?_)); clear hK KC)
 (refine seq_take _ rfl (fun KC hK => ?_); go_simp; (first | refine hK _ ?_ | refine ⟨_, fun _ _ => rfl, hK _ ?_⟩ | (refine ⟨undef, by rw [if_neg (by simp [undef])], ?_⟩; refine hK _ ?_)); clear hK KC)
 (refine seq_take _ rfl (fun KC hK => ?_); go_simp; (first | refine hK _ ?_ | refine ⟨_, fun _ _ => rfl, hK _ ?_⟩ | (refine ⟨undef, by rw [if_neg (by simp [undef])], ?_⟩; refine hK _ ?_)); clear hK KC)
 refine seq_come _ rfl (fun KC hK => ?_); go_simp
 (first | refine hK.out _ _ (H5.out.is.2.1) ?_ | (rw [if_neg (by simp [undef])]; refine hK.out _ _ (H5.out.is.2.1) ?_)); clear hK KC
 (refine seq_take _ rfl (fun KC hK => ?_); go_simp; (first | refine hK _ ?_ | refine ⟨_, fun _ _ => rfl, hK _ ?_⟩ | (refine ⟨undef, by rw [if_neg (by simp [undef])], ?_⟩; refine hK _ ?_)); clear hK KC)
 (refine seq_take _ rfl (fun KC hK => ?_); go_simp; (first | refine hK _ ?_ | refine ⟨_, fun _ _ => rfl, hK _ ?_⟩ | (refine ⟨undef, by rw [if_neg (by simp [undef])], ?_⟩; refine hK _ ?_)); clear hK KC)
 (refine seq_take _ rfl (fun KC hK => ?_); go_simp; (first | refine hK _ ?_ | refine ⟨_, fun _ _ => rfl, hK _ ?_⟩ | (refine ⟨undef, by rw [if_neg (by simp [undef])], ?_⟩; refine hK _ ?_)); clear hK KC)
 (refine seq_take _ rfl (fun KC hK => ?_); go_simp; (first | refine hK _ ?_ | refine ⟨_, fun _ _ => rfl, hK _ ?_⟩ | (refine ⟨undef, by rw [if_neg (by simp [undef])], ?_⟩; refine hK _ ?_)); clear hK KC)
 refine seq_come _ rfl (fun KC hK => ?_); go_simp
 (first | refine hK.out _ _ (H5.out.is.2.1) ?_ | (rw [if_neg (by simp [undef])]; refine hK.out _ _ (H5.out.is.2.1) ?_)); clear hK KC
 (refine seq_take _ rfl (fun KC hK => ?_); go_simp; (first | refine hK _ ?_ | refine ⟨_, fun _ _ => rfl, hK _ ?_⟩ | (refine ⟨undef, by rw [if_neg (by simp [undef])], ?_⟩; refine hK _ ?_)); clear hK KC)
 (refine seq_take _ rfl (fun KC hK => ?_); go_simp; (first | refine hK _ ?_ | refine ⟨_, fun _ _ => rfl, hK _ ?_⟩ | (refine ⟨undef, by rw [if_neg (by simp [undef])], ?_⟩; refine hK _ ?_)); clear hK KC)
 (refine seq_take _ rfl (fun KC hK => ?_); go_simp; (first | refine hK _ ?_ | refine ⟨_, fun _ _ => rfl, hK _ ?_⟩ | (refine ⟨undef, by rw [if_neg (by simp [undef])], ?_⟩; refine hK _ ?_)); clear hK KC)
 (refine seq_take _ rfl (fun KC hK => ?_); go_simp; (first | refine hK _ ?_ | refine ⟨_, fun _ _ => rfl, hK _ ?_⟩ | (refine ⟨undef, by rw [if_neg (by simp [undef])], ?_⟩; refine hK _ ?_)); clear hK KC)
 (refine seq_take _ rfl (fun KC hK => ?_); go_simp; (first | refine hK _ ?_ | refine ⟨_, fun _ _ => rfl, hK _ ?_⟩ | (refine ⟨undef, by rw [if_neg (by simp [undef])], ?_⟩; refine hK _ ?_)); clear hK KC)
 (refine seq_take _ rfl (fun KC hK => ?_); go_simp; (first | refine hK _ ?_ | refine ⟨_, fun _ _ => rfl, hK _ ?_⟩ | (refine ⟨undef, by rw [if_neg (by simp [undef])], ?_⟩; refine hK _ ?_)); clear hK KC)
 refine seq_come _ rfl (fun KC hK => ?_); go_simp
 (first | refine hK.out _ _ (H5.out.is.2.1) ?_ | (rw [if_neg (by simp [undef])]; refine hK.out _ _ (H5.out.is.2.1) ?_)); clear hK KC
 (refine seq_take _ rfl (fun KC hK => ?_); go_simp; (first | refine hK _ ?_ | refine ⟨_, fun _ _ => rfl, hK _ ?_⟩ | (refine ⟨undef, by rw [if_neg (by simp [undef])], ?_⟩; refine hK _ ?_)); clear hK KC)
 (refine seq_take _ rfl (fun KC hK => ?_); go_simp; (first | refine hK _ ?_ | refine ⟨_, fun _ _ => rfl, hK _ ?_⟩ | (refine ⟨undef, by rw [if_neg (by simp [undef])], ?_⟩; refine hK _ ?_)); clear hK KC)
 (refine seq_take _ rfl (fun KC hK => ?_); go_simp; (first | refine hK _ ?_ | refine ⟨_, fun _ _ => rfl, hK _ ?_⟩ | (refine ⟨undef, by rw [if_neg (by simp [undef])], ?_⟩; refine hK _ ?_)); clear hK KC)
 (refine seq_take _ rfl (fun KC hK => ?_); go_simp; (first | refine hK _ ?_ | refine ⟨_, fun _ _ => rfl, hK _ ?_⟩ | (refine ⟨undef, by rw [if_neg (by simp [undef])], ?_⟩; refine hK _ ?_)); clear hK KC)
 (refine seq_take _ rfl (fun KC hK => ?_); go_simp; (first | refine hK _ ?_ | refine ⟨_, fun _ _ => rfl, hK _ ?_⟩ | (refine ⟨undef, by rw [if_neg (by simp [undef])], ?_⟩; refine hK _ ?_)); clear hK KC)
 refine seq_come _ rfl (fun KC hK => ?_); go_simp
 (first | refine hK.out _ _ (H5.out.is.2.1) ?_ | (rw [if_neg (by simp [undef])]; refine hK.out _ _ (H5.out.is.2.1) ?_)); clear hK KC
 refine seq_come _ rfl (fun KC hK => ?_); go_simp
 (first | refine hK.out _ _ (H5.out.is.2.1) ?_ | (rw [if_neg (by simp [undef])]; refine hK.out _ _ (H5.out.is.2.1) ?_)); clear hK KC
 (refine seq_take _ rfl (fun KC hK => ?_); go_simp; (first | refine hK _ ?_ | refine ⟨_, fun _ _ => rfl, hK _ ?_⟩ | (refine ⟨undef, by rw [if_neg (by simp [undef])], ?_⟩; refine hK _ ?_)); clear hK KC)
 (refine seq_take _ rfl (fun KC hK => ?_); go_simp; (first | refine hK _ ?_ | refine ⟨_, fun _ _ => rfl, hK _ ?_⟩ | (refine ⟨undef, by rw [if_neg (by simp [undef])], ?_⟩; refine hK _ ?_)); clear hK KC)
 refine seq_done ?_
 clear hne
 go_wp2_with fail
 go_ret
 exact ⟨rfl, H5.out.is.2.2.1⟩
set_option maxRecDepth 1000000 in
set_option maxHeartbeats 16000000 in
theorem scrmay_1 (a : List UInt8) (b : List UInt8) (l : List KV) (n : Nat) (u : List UInt8) (lo1 : Option Addr) (lc1 : Nat) (Q : Nat → Prop) (d : Int) (w : World) (hk1 : KRels w Q l lo1 0) (hf : ksfit l) (hw : ksw l ≤ 100000) (hu : u.length ≤ 1000000) (hal : a.length ≤ 1000000) (hbl : b.length ≤ 1000000) (hd : -9223372036854775808 ≤ d ∧ d ≤ 9223372036854775807) (hcd : 0 ≤ d) (hct0 : uvalid a = false) :
 Calls Tryz.prog 15 #[.agg #[.string ⟨a.toArray⟩, .string ⟨b.toArray⟩, .slice lo1 l.length lc1, .int .u32 (n : Int), .string ⟨u.toArray⟩], .int .i64 d] w fun e w' => e = .returned (.bool false) ∧ Below w.heap.size w w' := by
 obtain ⟨A, eA⟩ : ∃ X : ByteArray, (⟨a.toArray⟩ : ByteArray) = X := ⟨_, rfl⟩
 have HAD : Hid (A.data.toList = a) := Lib.hid (by rw [← eA])
 have HAZ : A.size ≤ 1000000 := by rw [← eA]; simp [ByteArray.size]; omega
 obtain ⟨B, eB⟩ : ∃ X : ByteArray, (⟨b.toArray⟩ : ByteArray) = X := ⟨_, rfl⟩
 have HBD : Hid (B.data.toList = b) := Lib.hid (by rw [← eB])
 have HBZ : B.size ≤ 1000000 := by rw [← eB]; simp [ByteArray.size]; omega
 obtain ⟨U, eU⟩ : ∃ X : ByteArray, (⟨u.toArray⟩ : ByteArray) = X := ⟨_, rfl⟩
 have HUD : Hid (U.data.toList = u) := Lib.hid (by rw [← eU])
 have HUZ : U.size ≤ 1000000 := by rw [← eU]; simp [ByteArray.size]; omega
 rw [eA, eB, eU]
 clear eA eB eU
 obtain ⟨bx, hbx⟩ : ∃ b, w.heap.size = b := ⟨_, rfl⟩
 obtain ⟨W, hW⟩ : ∃ W, w.alloc (.cells #[.string A, .string B, .slice lo1 l.length lc1, .int .u32 (n : Int), .string U] 26) = W := ⟨_, rfl⟩
 have hb : Below w.heap.size w W := by rw [← hW]; exact below_new _ _
 have hrow : W.heap[bx]? = some (.cells #[.string A, .string B, .slice lo1 l.length lc1, .int .u32 (n : Int), .string U] 26 (0, 0)) := by rw [← hW, ← hbx]; exact new_row _ _ _
 have H1 := Lib.hid (Fx.nil W)
 have H2 := Lib.hid (H1.out.base (hb))
 clear H1
 have H3 := Lib.hid (H2.out.row (hrow))
 clear H2
 have H4 := Lib.hid (H3.out.krels (hk1.below hb))
 clear H3
 have HW := Lib.hid hW
 have HBX := Lib.hid hbx
 have HF := Lib.hid hf
 have HWT := Lib.hid hw
 have HDD := Lib.hid hd
 have d1 : decide (d ≥ 0) = true := decide_eq_true hcd
 have q1 : IntKind.i64.wrap (d - 1) = d - 1 := IntWalk.i64_in _ (by omega)
 have d2 : decide (0 ≤ d) = true := decide_eq_true hcd
 have HD0 := Lib.hid hcd
 have HCt0 := Lib.hid hct0
 clear hW hbx hb hrow hk1 hf hw hd hu hcd hct0 hal hbl
 go_enter Tryz.func15, Tryz.ntmps15
 go_wp2_with fail
 rw [HW.out, HBX.out]
 obtain ⟨D, hD⟩ : ∃ D, W.drew = D := ⟨_, rfl⟩
 have hb : Below W.heap.size W D := by rw [← hD]; exact (Below.refl _ _).drew
 have H5 := Lib.hid (H4.out.below hb)
 clear hb H4
 have hne : Nonempty {w' : World // (fun w' => w'.heap[bx]? = some (.cells #[.string A, .string B, .slice lo1 l.length lc1, .int .u32 (n : Int), .string U] 26 (0, 0))) w'} := ⟨⟨_, H5.out.is.2.1⟩⟩
 refine wp_region_seq (S := fun w' => w'.heap[bx]? = some (.cells #[.string A, .string B, .slice lo1 l.length lc1, .int .u32 (n : Int), .string U] 26 (0, 0))) [(0, true), (1, true), (2, true), (3, true), (4, true), (5, false), (6, true), (7, true), (8, true), (9, true), (10, false), (11, true), (12, true), (13, true), (14, true), (15, true), (16, true), (17, false), (18, true), (19, true), (20, true), (21, true), (22, true), (23, false), (24, false), (25, true), (26, true)] (by kernel_rfl) (by kernel_rfl) (by kernel_rfl) (by kernel_rfl) (by rw [hD]; exact H5.out.is.2.1) ?_
 rw [hD]
 clear hD
 (refine seq_take _ rfl (fun KC hK => ?_); go_simp; (first | refine hK _ ?_ | refine ⟨_, fun _ _ => rfl, hK _ ?_⟩ | (refine ⟨undef, by rw [if_neg (by simp [undef])], ?_⟩; refine hK _ ?_)); clear hK KC)
 (refine seq_take _ rfl (fun KC hK => ?_); go_simp; (first | refine hK _ ?_ | refine ⟨_, fun _ _ => rfl, hK _ ?_⟩ | (refine ⟨undef, by rw [if_neg (by simp [undef])], ?_⟩; refine hK _ ?_)); clear hK KC)
 (refine seq_take _ rfl (fun KC hK => ?_); go_simp; (first | refine hK _ ?_ | refine ⟨_, fun _ _ => rfl, hK _ ?_⟩ | (refine ⟨undef, by rw [if_neg (by simp [undef])], ?_⟩; refine hK _ ?_)); clear hK KC)
 (refine seq_take _ rfl (fun KC hK => ?_); go_simp; (first | refine hK _ ?_ | refine ⟨_, fun _ _ => rfl, hK _ ?_⟩ | (refine ⟨undef, by rw [if_neg (by simp [undef])], ?_⟩; refine hK _ ?_)); clear hK KC)
 refine seq_take _ rfl (fun KC hK => ?_); go_simp
 refine ⟨.string A, fun a ha => by (have e0 : a.cell? ⟨bx, 0, none⟩ = some (.string A) := row_cell ha (j := 0) rfl); simp only [e0, Result.andThen], hK _ ?_⟩
 clear hK KC
 refine seq_come _ rfl (fun KC hK => ?_); go_simp
 refine (text8_key A D HAZ).mono ?_; rintro e wz ⟨rfl, rfl⟩
 rw [HAD.out, HCt0.out]
 go_simp; refine hK.out _ _ (H5.out.is.2.1) ?_; clear hK KC
 (refine seq_take _ rfl (fun KC hK => ?_); go_simp; (first | refine hK _ ?_ | refine ⟨_, fun _ _ => rfl, hK _ ?_⟩ | (refine ⟨undef, by rw [if_neg (by simp [undef])], ?_⟩; refine hK _ ?_)); clear hK KC)
 (refine seq_take _ rfl (fun KC hK => ?_); go_simp; (first | refine hK _ ?_ | refine ⟨_, fun _ _ => rfl, hK _ ?_⟩ | (refine ⟨undef, by rw [if_neg (by simp [undef])], ?_⟩; refine hK _ ?_)); clear hK KC)
 (refine seq_take _ rfl (fun KC hK => ?_); go_simp; (first | refine hK _ ?_ | refine ⟨_, fun _ _ => rfl, hK _ ?_⟩ | (refine ⟨undef, by rw [if_neg (by simp [undef])], ?_⟩; refine hK _ ?_)); clear hK KC)
 (refine seq_take _ rfl (fun KC hK => ?_); go_simp; (first | refine hK _ ?_ | refine ⟨_, fun _ _ => rfl, hK _ ?_⟩ | (refine ⟨undef, by rw [if_neg (by simp [undef])], ?_⟩; refine hK _ ?_)); clear hK KC)
 refine seq_come _ rfl (fun KC hK => ?_); go_simp
 (first | refine hK.out _ _ (H5.out.is.2.1) ?_ | (rw [if_neg (by simp [undef])]; refine hK.out _ _ (H5.out.is.2.1) ?_)); clear hK KC
 (refine seq_take _ rfl (fun KC hK => ?_); go_simp; (first | refine hK _ ?_ | refine ⟨_, fun _ _ => rfl, hK _ ?_⟩ | (refine ⟨undef, by rw [if_neg (by simp [undef])], ?_⟩; refine hK _ ?_)); clear hK KC)
 (refine seq_take _ rfl (fun KC hK => ?_); go_simp; (first | refine hK _ ?_ | refine ⟨_, fun _ _ => rfl, hK _ ?_⟩ | (refine ⟨undef, by rw [if_neg (by simp [undef])], ?_⟩; refine hK _ ?_)); clear hK KC)
 (refine seq_take _ rfl (fun KC hK => ?_); go_simp; (first | refine hK _ ?_ | refine ⟨_, fun _ _ => rfl, hK _ ?_⟩ | (refine ⟨undef, by rw [if_neg (by simp [undef])], ?_⟩; refine hK _ ?_)); clear hK KC)
 (refine seq_take _ rfl (fun KC hK => ?_); go_simp; (first | refine hK _ ?_ | refine ⟨_, fun _ _ => rfl, hK _ ?_⟩ | (refine ⟨undef, by rw [if_neg (by simp [undef])], ?_⟩; refine hK _ ?_)); clear hK KC)
 (refine seq_take _ rfl (fun KC hK => ?_); go_simp; (first | refine hK _ ?_ | refine ⟨_, fun _ _ => rfl, hK _ ?_⟩ | (refine ⟨undef, by rw [if_neg (by simp [undef])], ?_⟩; refine hK _ ?_)); clear hK KC)
 (refine seq_take _ rfl (fun KC hK => ?_); go_simp; (first | refine hK _ ?_ | refine ⟨_, fun _ _ => rfl, hK _ ?_⟩ | (refine ⟨undef, by rw [if_neg (by simp [undef])], ?_⟩; refine hK _ ?_)); clear hK KC)
 refine seq_come _ rfl (fun KC hK => ?_); go_simp
 (first | refine hK.out _ _ (H5.out.is.2.1) ?_ | (rw [if_neg (by simp [undef])]; refine hK.out _ _ (H5.out.is.2.1) ?_)); clear hK KC
 (refine seq_take _ rfl (fun KC hK => ?_); go_simp; (first | refine hK _ ?_ | refine ⟨_, fun _ _ => rfl, hK _ ?_⟩ | (refine ⟨undef, by rw [if_neg (by simp [undef])], ?_⟩; refine hK _ ?_)); clear hK KC)
 (refine seq_take _ rfl (fun KC hK => ?_); go_simp; (first | refine hK _ ?_ | refine ⟨_, fun _ _ => rfl, hK _ ?_⟩ | (refine ⟨undef, by rw [if_neg (by simp [undef])], ?_⟩; refine hK _ ?_)); clear hK KC)
 (refine seq_take _ rfl (fun KC hK => ?_); go_simp; (first | refine hK _ ?_ | refine ⟨_, fun _ _ => rfl, hK _ ?_⟩ | (refine ⟨undef, by rw [if_neg (by simp [undef])], ?_⟩; refine hK _ ?_)); clear hK KC)
 (refine seq_take _ rfl (fun KC hK => ?_); go_simp; (first | refine hK _ ?_ | refine ⟨_, fun _ _ => rfl, hK _ ?_⟩ | (refine ⟨undef, by rw [if_neg (by simp [undef])], ?_⟩; refine hK _ ?_)); clear hK KC)
 (refine seq_take _ rfl (fun KC hK => ?_); go_simp; (first | refine hK _ ?_ | refine ⟨_, fun _ _ => rfl, hK _ ?_⟩ | (refine ⟨undef, by rw [if_neg (by simp [undef])], ?_⟩; refine hK _ ?_)); clear hK KC)
 refine seq_come _ rfl (fun KC hK => ?_); go_simp
 (first | refine hK.out _ _ (H5.out.is.2.1) ?_ | (rw [if_neg (by simp [undef])]; refine hK.out _ _ (H5.out.is.2.1) ?_)); clear hK KC
 refine seq_come _ rfl (fun KC hK => ?_); go_simp
 (first | refine hK.out _ _ (H5.out.is.2.1) ?_ | (rw [if_neg (by simp [undef])]; refine hK.out _ _ (H5.out.is.2.1) ?_)); clear hK KC
 (refine seq_take _ rfl (fun KC hK => ?_); go_simp; (first | refine hK _ ?_ | refine ⟨_, fun _ _ => rfl, hK _ ?_⟩ | (refine ⟨undef, by rw [if_neg (by simp [undef])], ?_⟩; refine hK _ ?_)); clear hK KC)
 (refine seq_take _ rfl (fun KC hK => ?_); go_simp; (first | refine hK _ ?_ | refine ⟨_, fun _ _ => rfl, hK _ ?_⟩ | (refine ⟨undef, by rw [if_neg (by simp [undef])], ?_⟩; refine hK _ ?_)); clear hK KC)
 refine seq_done ?_
 clear hne
 go_wp2_with fail
 go_ret
 exact ⟨rfl, H5.out.is.2.2.1⟩
set_option maxRecDepth 1000000 in
set_option maxHeartbeats 16000000 in
theorem scrmay_2 (a : List UInt8) (b : List UInt8) (l : List KV) (n : Nat) (u : List UInt8) (lo1 : Option Addr) (lc1 : Nat) (Q : Nat → Prop) (d : Int) (w : World) (hk1 : KRels w Q l lo1 0) (hf : ksfit l) (hw : ksw l ≤ 100000) (hu : u.length ≤ 1000000) (hal : a.length ≤ 1000000) (hbl : b.length ≤ 1000000) (hd : -9223372036854775808 ≤ d ∧ d ≤ 9223372036854775807) (hcd : 0 ≤ d) (hct0 : uvalid a = true) (hct1 : uvalid b = false) :
 Calls Tryz.prog 15 #[.agg #[.string ⟨a.toArray⟩, .string ⟨b.toArray⟩, .slice lo1 l.length lc1, .int .u32 (n : Int), .string ⟨u.toArray⟩], .int .i64 d] w fun e w' => e = .returned (.bool false) ∧ Below w.heap.size w w' := by
 obtain ⟨A, eA⟩ : ∃ X : ByteArray, (⟨a.toArray⟩ : ByteArray) = X := ⟨_, rfl⟩
 have HAD : Hid (A.data.toList = a) := Lib.hid (by rw [← eA])
 have HAZ : A.size ≤ 1000000 := by rw [← eA]; simp [ByteArray.size]; omega
 obtain ⟨B, eB⟩ : ∃ X : ByteArray, (⟨b.toArray⟩ : ByteArray) = X := ⟨_, rfl⟩
 have HBD : Hid (B.data.toList = b) := Lib.hid (by rw [← eB])
 have HBZ : B.size ≤ 1000000 := by rw [← eB]; simp [ByteArray.size]; omega
 obtain ⟨U, eU⟩ : ∃ X : ByteArray, (⟨u.toArray⟩ : ByteArray) = X := ⟨_, rfl⟩
 have HUD : Hid (U.data.toList = u) := Lib.hid (by rw [← eU])
 have HUZ : U.size ≤ 1000000 := by rw [← eU]; simp [ByteArray.size]; omega
 rw [eA, eB, eU]
 clear eA eB eU
 obtain ⟨bx, hbx⟩ : ∃ b, w.heap.size = b := ⟨_, rfl⟩
 obtain ⟨W, hW⟩ : ∃ W, w.alloc (.cells #[.string A, .string B, .slice lo1 l.length lc1, .int .u32 (n : Int), .string U] 26) = W := ⟨_, rfl⟩
 have hb : Below w.heap.size w W := by rw [← hW]; exact below_new _ _
 have hrow : W.heap[bx]? = some (.cells #[.string A, .string B, .slice lo1 l.length lc1, .int .u32 (n : Int), .string U] 26 (0, 0)) := by rw [← hW, ← hbx]; exact new_row _ _ _
 have H1 := Lib.hid (Fx.nil W)
 have H2 := Lib.hid (H1.out.base (hb))
 clear H1
 have H3 := Lib.hid (H2.out.row (hrow))
 clear H2
 have H4 := Lib.hid (H3.out.krels (hk1.below hb))
 clear H3
 have HW := Lib.hid hW
 have HBX := Lib.hid hbx
 have HF := Lib.hid hf
 have HWT := Lib.hid hw
 have HDD := Lib.hid hd
 have d1 : decide (d ≥ 0) = true := decide_eq_true hcd
 have q1 : IntKind.i64.wrap (d - 1) = d - 1 := IntWalk.i64_in _ (by omega)
 have d2 : decide (0 ≤ d) = true := decide_eq_true hcd
 have HD0 := Lib.hid hcd
 have HCt0 := Lib.hid hct0
 have HCt1 := Lib.hid hct1
 clear hW hbx hb hrow hk1 hf hw hd hu hcd hct0 hct1 hal hbl
 go_enter Tryz.func15, Tryz.ntmps15
 go_wp2_with fail
 rw [HW.out, HBX.out]
 obtain ⟨D, hD⟩ : ∃ D, W.drew = D := ⟨_, rfl⟩
 have hb : Below W.heap.size W D := by rw [← hD]; exact (Below.refl _ _).drew
 have H5 := Lib.hid (H4.out.below hb)
 clear hb H4
 have hne : Nonempty {w' : World // (fun w' => w'.heap[bx]? = some (.cells #[.string A, .string B, .slice lo1 l.length lc1, .int .u32 (n : Int), .string U] 26 (0, 0))) w'} := ⟨⟨_, H5.out.is.2.1⟩⟩
 refine wp_region_seq (S := fun w' => w'.heap[bx]? = some (.cells #[.string A, .string B, .slice lo1 l.length lc1, .int .u32 (n : Int), .string U] 26 (0, 0))) [(0, true), (1, true), (2, true), (3, true), (4, true), (5, false), (6, true), (7, true), (8, true), (9, true), (10, false), (11, true), (12, true), (13, true), (14, true), (15, true), (16, true), (17, false), (18, true), (19, true), (20, true), (21, true), (22, true), (23, false), (24, false), (25, true), (26, true)] (by kernel_rfl) (by kernel_rfl) (by kernel_rfl) (by kernel_rfl) (by rw [hD]; exact H5.out.is.2.1) ?_
 rw [hD]
 clear hD
 (refine seq_take _ rfl (fun KC hK => ?_); go_simp; (first | refine hK _ ?_ | refine ⟨_, fun _ _ => rfl, hK _ ?_⟩ | (refine ⟨undef, by rw [if_neg (by simp [undef])], ?_⟩; refine hK _ ?_)); clear hK KC)
 (refine seq_take _ rfl (fun KC hK => ?_); go_simp; (first | refine hK _ ?_ | refine ⟨_, fun _ _ => rfl, hK _ ?_⟩ | (refine ⟨undef, by rw [if_neg (by simp [undef])], ?_⟩; refine hK _ ?_)); clear hK KC)
 (refine seq_take _ rfl (fun KC hK => ?_); go_simp; (first | refine hK _ ?_ | refine ⟨_, fun _ _ => rfl, hK _ ?_⟩ | (refine ⟨undef, by rw [if_neg (by simp [undef])], ?_⟩; refine hK _ ?_)); clear hK KC)
 (refine seq_take _ rfl (fun KC hK => ?_); go_simp; (first | refine hK _ ?_ | refine ⟨_, fun _ _ => rfl, hK _ ?_⟩ | (refine ⟨undef, by rw [if_neg (by simp [undef])], ?_⟩; refine hK _ ?_)); clear hK KC)
 refine seq_take _ rfl (fun KC hK => ?_); go_simp
 refine ⟨.string A, fun a ha => by (have e0 : a.cell? ⟨bx, 0, none⟩ = some (.string A) := row_cell ha (j := 0) rfl); simp only [e0, Result.andThen], hK _ ?_⟩
 clear hK KC
 refine seq_come _ rfl (fun KC hK => ?_); go_simp
 refine (text8_key A D HAZ).mono ?_; rintro e wz ⟨rfl, rfl⟩
 rw [HAD.out, HCt0.out]
 go_simp; refine hK.out _ _ (H5.out.is.2.1) ?_; clear hK KC
 (refine seq_take _ rfl (fun KC hK => ?_); go_simp; (first | refine hK _ ?_ | refine ⟨_, fun _ _ => rfl, hK _ ?_⟩ | (refine ⟨undef, by rw [if_neg (by simp [undef])], ?_⟩; refine hK _ ?_)); clear hK KC)
 (refine seq_take _ rfl (fun KC hK => ?_); go_simp; (first | refine hK _ ?_ | refine ⟨_, fun _ _ => rfl, hK _ ?_⟩ | (refine ⟨undef, by rw [if_neg (by simp [undef])], ?_⟩; refine hK _ ?_)); clear hK KC)
 (refine seq_take _ rfl (fun KC hK => ?_); go_simp; (first | refine hK _ ?_ | refine ⟨_, fun _ _ => rfl, hK _ ?_⟩ | (refine ⟨undef, by rw [if_neg (by simp [undef])], ?_⟩; refine hK _ ?_)); clear hK KC)
 refine seq_take _ rfl (fun KC hK => ?_); go_simp
 refine ⟨.string B, fun a ha => by (have e0 : a.cell? ⟨bx, 1, none⟩ = some (.string B) := row_cell ha (j := 1) rfl); simp only [e0, Result.andThen], hK _ ?_⟩
 clear hK KC
 refine seq_come _ rfl (fun KC hK => ?_); go_simp
 refine (text8_key B D HBZ).mono ?_; rintro e wz ⟨rfl, rfl⟩
 rw [HBD.out, HCt1.out]
 go_simp; refine hK.out _ _ (H5.out.is.2.1) ?_; clear hK KC
 (refine seq_take _ rfl (fun KC hK => ?_); go_simp; (first | refine hK _ ?_ | refine ⟨_, fun _ _ => rfl, hK _ ?_⟩ | (refine ⟨undef, by rw [if_neg (by simp [undef])], ?_⟩; refine hK _ ?_)); clear hK KC)
 (refine seq_take _ rfl (fun KC hK => ?_); go_simp; (first | refine hK _ ?_ | refine ⟨_, fun _ _ => rfl, hK _ ?_⟩ | (refine ⟨undef, by rw [if_neg (by simp [undef])], ?_⟩; refine hK _ ?_)); clear hK KC)
 (refine seq_take _ rfl (fun KC hK => ?_); go_simp; (first | refine hK _ ?_ | refine ⟨_, fun _ _ => rfl, hK _ ?_⟩ | (refine ⟨undef, by rw [if_neg (by simp [undef])], ?_⟩; refine hK _ ?_)); clear hK KC)
 (refine seq_take _ rfl (fun KC hK => ?_); go_simp; (first | refine hK _ ?_ | refine ⟨_, fun _ _ => rfl, hK _ ?_⟩ | (refine ⟨undef, by rw [if_neg (by simp [undef])], ?_⟩; refine hK _ ?_)); clear hK KC)
 (refine seq_take _ rfl (fun KC hK => ?_); go_simp; (first | refine hK _ ?_ | refine ⟨_, fun _ _ => rfl, hK _ ?_⟩ | (refine ⟨undef, by rw [if_neg (by simp [undef])], ?_⟩; refine hK _ ?_)); clear hK KC)
 (refine seq_take _ rfl (fun KC hK => ?_); go_simp; (first | refine hK _ ?_ | refine ⟨_, fun _ _ => rfl, hK _ ?_⟩ | (refine ⟨undef, by rw [if_neg (by simp [undef])], ?_⟩; refine hK _ ?_)); clear hK KC)
 refine seq_come _ rfl (fun KC hK => ?_); go_simp
 (first | refine hK.out _ _ (H5.out.is.2.1) ?_ | (rw [if_neg (by simp [undef])]; refine hK.out _ _ (H5.out.is.2.1) ?_)); clear hK KC
 (refine seq_take _ rfl (fun KC hK => ?_); go_simp; (first | refine hK _ ?_ | refine ⟨_, fun _ _ => rfl, hK _ ?_⟩ | (refine ⟨undef, by rw [if_neg (by simp [undef])], ?_⟩; refine hK _ ?_)); clear hK KC)
 (refine seq_take _ rfl (fun KC hK => ?_); go_simp; (first | refine hK _ ?_ | refine ⟨_, fun _ _ => rfl, hK _ ?_⟩ | (refine ⟨undef, by rw [if_neg (by simp [undef])], ?_⟩; refine hK _ ?_)); clear hK KC)
 (refine seq_take _ rfl (fun KC hK => ?_); go_simp; (first | refine hK _ ?_ | refine ⟨_, fun _ _ => rfl, hK _ ?_⟩ | (refine ⟨undef, by rw [if_neg (by simp [undef])], ?_⟩; refine hK _ ?_)); clear hK KC)
 (refine seq_take _ rfl (fun KC hK => ?_); go_simp; (first | refine hK _ ?_ | refine ⟨_, fun _ _ => rfl, hK _ ?_⟩ | (refine ⟨undef, by rw [if_neg (by simp [undef])], ?_⟩; refine hK _ ?_)); clear hK KC)
 (refine seq_take _ rfl (fun KC hK => ?_); go_simp; (first | refine hK _ ?_ | refine ⟨_, fun _ _ => rfl, hK _ ?_⟩ | (refine ⟨undef, by rw [if_neg (by simp [undef])], ?_⟩; refine hK _ ?_)); clear hK KC)
 refine seq_come _ rfl (fun KC hK => ?_); go_simp
 (first | refine hK.out _ _ (H5.out.is.2.1) ?_ | (rw [if_neg (by simp [undef])]; refine hK.out _ _ (H5.out.is.2.1) ?_)); clear hK KC
 refine seq_come _ rfl (fun KC hK => ?_); go_simp
 (first | refine hK.out _ _ (H5.out.is.2.1) ?_ | (rw [if_neg (by simp [undef])]; refine hK.out _ _ (H5.out.is.2.1) ?_)); clear hK KC
 (refine seq_take _ rfl (fun KC hK => ?_); go_simp; (first | refine hK _ ?_ | refine ⟨_, fun _ _ => rfl, hK _ ?_⟩ | (refine ⟨undef, by rw [if_neg (by simp [undef])], ?_⟩; refine hK _ ?_)); clear hK KC)
 (refine seq_take _ rfl (fun KC hK => ?_); go_simp; (first | refine hK _ ?_ | refine ⟨_, fun _ _ => rfl, hK _ ?_⟩ | (refine ⟨undef, by rw [if_neg (by simp [undef])], ?_⟩; refine hK _ ?_)); clear hK KC)
 refine seq_done ?_
 clear hne
 go_wp2_with fail
 go_ret
 exact ⟨rfl, H5.out.is.2.2.1⟩
set_option maxRecDepth 1000000 in
set_option maxHeartbeats 16000000 in
theorem scrmay_3 (a : List UInt8) (b : List UInt8) (l : List KV) (n : Nat) (u : List UInt8) (lo1 : Option Addr) (lc1 : Nat) (Q : Nat → Prop) (d : Int) (w : World) (hk1 : KRels w Q l lo1 0) (hf : ksfit l) (hw : ksw l ≤ 100000) (hu : u.length ≤ 1000000) (hal : a.length ≤ 1000000) (hbl : b.length ≤ 1000000) (hd : -9223372036854775808 ≤ d ∧ d ≤ 9223372036854775807) (hcd : 0 ≤ d) (hct0 : uvalid a = true) (hct1 : uvalid b = true) (hck : kmays l d = false) :
 Calls Tryz.prog 15 #[.agg #[.string ⟨a.toArray⟩, .string ⟨b.toArray⟩, .slice lo1 l.length lc1, .int .u32 (n : Int), .string ⟨u.toArray⟩], .int .i64 d] w fun e w' => e = .returned (.bool false) ∧ Below w.heap.size w w' := by
 obtain ⟨A, eA⟩ : ∃ X : ByteArray, (⟨a.toArray⟩ : ByteArray) = X := ⟨_, rfl⟩
 have HAD : Hid (A.data.toList = a) := Lib.hid (by rw [← eA])
 have HAZ : A.size ≤ 1000000 := by rw [← eA]; simp [ByteArray.size]; omega
 obtain ⟨B, eB⟩ : ∃ X : ByteArray, (⟨b.toArray⟩ : ByteArray) = X := ⟨_, rfl⟩
 have HBD : Hid (B.data.toList = b) := Lib.hid (by rw [← eB])
 have HBZ : B.size ≤ 1000000 := by rw [← eB]; simp [ByteArray.size]; omega
 obtain ⟨U, eU⟩ : ∃ X : ByteArray, (⟨u.toArray⟩ : ByteArray) = X := ⟨_, rfl⟩
 have HUD : Hid (U.data.toList = u) := Lib.hid (by rw [← eU])
 have HUZ : U.size ≤ 1000000 := by rw [← eU]; simp [ByteArray.size]; omega
 rw [eA, eB, eU]
 clear eA eB eU
 obtain ⟨bx, hbx⟩ : ∃ b, w.heap.size = b := ⟨_, rfl⟩
 obtain ⟨W, hW⟩ : ∃ W, w.alloc (.cells #[.string A, .string B, .slice lo1 l.length lc1, .int .u32 (n : Int), .string U] 26) = W := ⟨_, rfl⟩
 have hb : Below w.heap.size w W := by rw [← hW]; exact below_new _ _
 have hrow : W.heap[bx]? = some (.cells #[.string A, .string B, .slice lo1 l.length lc1, .int .u32 (n : Int), .string U] 26 (0, 0)) := by rw [← hW, ← hbx]; exact new_row _ _ _
 have H1 := Lib.hid (Fx.nil W)
 have H2 := Lib.hid (H1.out.base (hb))
 clear H1
 have H3 := Lib.hid (H2.out.row (hrow))
 clear H2
 have H4 := Lib.hid (H3.out.krels (hk1.below hb))
 clear H3
 have HW := Lib.hid hW
 have HBX := Lib.hid hbx
 have HF := Lib.hid hf
 have HWT := Lib.hid hw
 have HDD := Lib.hid hd
 have d1 : decide (d ≥ 0) = true := decide_eq_true hcd
 have q1 : IntKind.i64.wrap (d - 1) = d - 1 := IntWalk.i64_in _ (by omega)
 have d2 : decide (0 ≤ d) = true := decide_eq_true hcd
 have HD0 := Lib.hid hcd
 have HCt0 := Lib.hid hct0
 have HCt1 := Lib.hid hct1
 have HCk := Lib.hid hck
 clear hW hbx hb hrow hk1 hf hw hd hu hcd hct0 hct1 hck hal hbl
 go_enter Tryz.func15, Tryz.ntmps15
 go_wp2_with fail
 rw [HW.out, HBX.out]
 obtain ⟨D, hD⟩ : ∃ D, W.drew = D := ⟨_, rfl⟩
 have hb : Below W.heap.size W D := by rw [← hD]; exact (Below.refl _ _).drew
 have H5 := Lib.hid (H4.out.below hb)
 clear hb H4
 have hne : Nonempty {w' : World // (fun w' => w'.heap[bx]? = some (.cells #[.string A, .string B, .slice lo1 l.length lc1, .int .u32 (n : Int), .string U] 26 (0, 0))) w'} := ⟨⟨_, H5.out.is.2.1⟩⟩
 refine wp_region_seq (S := fun w' => w'.heap[bx]? = some (.cells #[.string A, .string B, .slice lo1 l.length lc1, .int .u32 (n : Int), .string U] 26 (0, 0))) [(0, true), (1, true), (2, true), (3, true), (4, true), (5, false), (6, true), (7, true), (8, true), (9, true), (10, false), (11, true), (12, true), (13, true), (14, true), (15, true), (16, true), (17, false), (18, true), (19, true), (20, true), (21, true), (22, true), (23, false), (24, false), (25, true), (26, true)] (by kernel_rfl) (by kernel_rfl) (by kernel_rfl) (by kernel_rfl) (by rw [hD]; exact H5.out.is.2.1) ?_
 rw [hD]
 clear hD
 (refine seq_take _ rfl (fun KC hK => ?_); go_simp; (first | refine hK _ ?_ | refine ⟨_, fun _ _ => rfl, hK _ ?_⟩ | (refine ⟨undef, by rw [if_neg (by simp [undef])], ?_⟩; refine hK _ ?_)); clear hK KC)
 (refine seq_take _ rfl (fun KC hK => ?_); go_simp; (first | refine hK _ ?_ | refine ⟨_, fun _ _ => rfl, hK _ ?_⟩ | (refine ⟨undef, by rw [if_neg (by simp [undef])], ?_⟩; refine hK _ ?_)); clear hK KC)
 (refine seq_take _ rfl (fun KC hK => ?_); go_simp; (first | refine hK _ ?_ | refine ⟨_, fun _ _ => rfl, hK _ ?_⟩ | (refine ⟨undef, by rw [if_neg (by simp [undef])], ?_⟩; refine hK _ ?_)); clear hK KC)
 (refine seq_take _ rfl (fun KC hK => ?_); go_simp; (first | refine hK _ ?_ | refine ⟨_, fun _ _ => rfl, hK _ ?_⟩ | (refine ⟨undef, by rw [if_neg (by simp [undef])], ?_⟩; refine hK _ ?_)); clear hK KC)
 refine seq_take _ rfl (fun KC hK => ?_); go_simp
 refine ⟨.string A, fun a ha => by (have e0 : a.cell? ⟨bx, 0, none⟩ = some (.string A) := row_cell ha (j := 0) rfl); simp only [e0, Result.andThen], hK _ ?_⟩
 clear hK KC
 refine seq_come _ rfl (fun KC hK => ?_); go_simp
 refine (text8_key A D HAZ).mono ?_; rintro e wz ⟨rfl, rfl⟩
 rw [HAD.out, HCt0.out]
 go_simp; refine hK.out _ _ (H5.out.is.2.1) ?_; clear hK KC
 (refine seq_take _ rfl (fun KC hK => ?_); go_simp; (first | refine hK _ ?_ | refine ⟨_, fun _ _ => rfl, hK _ ?_⟩ | (refine ⟨undef, by rw [if_neg (by simp [undef])], ?_⟩; refine hK _ ?_)); clear hK KC)
 (refine seq_take _ rfl (fun KC hK => ?_); go_simp; (first | refine hK _ ?_ | refine ⟨_, fun _ _ => rfl, hK _ ?_⟩ | (refine ⟨undef, by rw [if_neg (by simp [undef])], ?_⟩; refine hK _ ?_)); clear hK KC)
 (refine seq_take _ rfl (fun KC hK => ?_); go_simp; (first | refine hK _ ?_ | refine ⟨_, fun _ _ => rfl, hK _ ?_⟩ | (refine ⟨undef, by rw [if_neg (by simp [undef])], ?_⟩; refine hK _ ?_)); clear hK KC)
 refine seq_take _ rfl (fun KC hK => ?_); go_simp
 refine ⟨.string B, fun a ha => by (have e0 : a.cell? ⟨bx, 1, none⟩ = some (.string B) := row_cell ha (j := 1) rfl); simp only [e0, Result.andThen], hK _ ?_⟩
 clear hK KC
 refine seq_come _ rfl (fun KC hK => ?_); go_simp
 refine (text8_key B D HBZ).mono ?_; rintro e wz ⟨rfl, rfl⟩
 rw [HBD.out, HCt1.out]
 go_simp; refine hK.out _ _ (H5.out.is.2.1) ?_; clear hK KC
 (refine seq_take _ rfl (fun KC hK => ?_); go_simp; (first | refine hK _ ?_ | refine ⟨_, fun _ _ => rfl, hK _ ?_⟩ | (refine ⟨undef, by rw [if_neg (by simp [undef])], ?_⟩; refine hK _ ?_)); clear hK KC)
 (refine seq_take _ rfl (fun KC hK => ?_); go_simp; (first | refine hK _ ?_ | refine ⟨_, fun _ _ => rfl, hK _ ?_⟩ | (refine ⟨undef, by rw [if_neg (by simp [undef])], ?_⟩; refine hK _ ?_)); clear hK KC)
 (refine seq_take _ rfl (fun KC hK => ?_); go_simp; (first | refine hK _ ?_ | refine ⟨_, fun _ _ => rfl, hK _ ?_⟩ | (refine ⟨undef, by rw [if_neg (by simp [undef])], ?_⟩; refine hK _ ?_)); clear hK KC)
 refine seq_take _ rfl (fun KC hK => ?_); go_simp
 refine ⟨.slice lo1 l.length lc1, fun a ha => by (have e0 : a.cell? ⟨bx, 2, none⟩ = some (.slice lo1 l.length lc1) := row_cell ha (j := 2) rfl); simp only [e0, Result.andThen], hK _ ?_⟩
 clear hK KC
 (refine seq_take _ rfl (fun KC hK => ?_); go_simp; (first | refine hK _ ?_ | refine ⟨_, fun _ _ => rfl, hK _ ?_⟩ | (refine ⟨undef, by rw [if_neg (by simp [undef])], ?_⟩; refine hK _ ?_)); clear hK KC)
 (refine seq_take _ rfl (fun KC hK => ?_); go_simp; (first | refine hK _ ?_ | refine ⟨_, fun _ _ => rfl, hK _ ?_⟩ | (refine ⟨undef, by rw [if_neg (by simp [undef])], ?_⟩; refine hK _ ?_)); clear hK KC)
 refine seq_come _ rfl (fun KC hK => ?_); go_simp
 refine (mayks_any8 l lo1 lc1 Q D (d - 1) HF.out (H5.out.is.1) (by have := HDD.out; have := HD0.out; omega) HWT.out).mono ?_; rintro e v3 ⟨hb, gg, rfl, rfl⟩
 rw [kmays_ref d HD0.out, HCk.out]
 have H6 := Lib.hid (H5.out.below hb)
 clear hb H5
 go_simp; refine hK.out _ _ (H6.out.is.2.1) ?_; clear hK KC
 (refine seq_take _ rfl (fun KC hK => ?_); go_simp; (first | refine hK _ ?_ | refine ⟨_, fun _ _ => rfl, hK _ ?_⟩ | (refine ⟨undef, by rw [if_neg (by simp [undef])], ?_⟩; refine hK _ ?_)); clear hK KC)
 (refine seq_take _ rfl (fun KC hK => ?_); go_simp; (first | refine hK _ ?_ | refine ⟨_, fun _ _ => rfl, hK _ ?_⟩ | (refine ⟨undef, by rw [if_neg (by simp [undef])], ?_⟩; refine hK _ ?_)); clear hK KC)
 (refine seq_take _ rfl (fun KC hK => ?_); go_simp; (first | refine hK _ ?_ | refine ⟨_, fun _ _ => rfl, hK _ ?_⟩ | (refine ⟨undef, by rw [if_neg (by simp [undef])], ?_⟩; refine hK _ ?_)); clear hK KC)
 (refine seq_take _ rfl (fun KC hK => ?_); go_simp; (first | refine hK _ ?_ | refine ⟨_, fun _ _ => rfl, hK _ ?_⟩ | (refine ⟨undef, by rw [if_neg (by simp [undef])], ?_⟩; refine hK _ ?_)); clear hK KC)
 (refine seq_take _ rfl (fun KC hK => ?_); go_simp; (first | refine hK _ ?_ | refine ⟨_, fun _ _ => rfl, hK _ ?_⟩ | (refine ⟨undef, by rw [if_neg (by simp [undef])], ?_⟩; refine hK _ ?_)); clear hK KC)
 refine seq_come _ rfl (fun KC hK => ?_); go_simp
 (first | refine hK.out _ _ (H6.out.is.2.1) ?_ | (rw [if_neg (by simp [undef])]; refine hK.out _ _ (H6.out.is.2.1) ?_)); clear hK KC
 refine seq_come _ rfl (fun KC hK => ?_); go_simp
 (first | refine hK.out _ _ (H6.out.is.2.1) ?_ | (rw [if_neg (by simp [undef])]; refine hK.out _ _ (H6.out.is.2.1) ?_)); clear hK KC
 (refine seq_take _ rfl (fun KC hK => ?_); go_simp; (first | refine hK _ ?_ | refine ⟨_, fun _ _ => rfl, hK _ ?_⟩ | (refine ⟨undef, by rw [if_neg (by simp [undef])], ?_⟩; refine hK _ ?_)); clear hK KC)
 (refine seq_take _ rfl (fun KC hK => ?_); go_simp; (first | refine hK _ ?_ | refine ⟨_, fun _ _ => rfl, hK _ ?_⟩ | (refine ⟨undef, by rw [if_neg (by simp [undef])], ?_⟩; refine hK _ ?_)); clear hK KC)
 refine seq_done ?_
 clear hne
 go_wp2_with fail
 go_ret
 exact ⟨rfl, H6.out.is.2.2.1⟩
set_option maxRecDepth 1000000 in
set_option maxHeartbeats 16000000 in
theorem scrmay_4 (a : List UInt8) (b : List UInt8) (l : List KV) (n : Nat) (u : List UInt8) (lo1 : Option Addr) (lc1 : Nat) (Q : Nat → Prop) (d : Int) (w : World) (hk1 : KRels w Q l lo1 0) (hf : ksfit l) (hw : ksw l ≤ 100000) (hu : u.length ≤ 1000000) (hal : a.length ≤ 1000000) (hbl : b.length ≤ 1000000) (hd : -9223372036854775808 ≤ d ∧ d ≤ 9223372036854775807) (hcd : 0 ≤ d) (hct0 : uvalid a = true) (hct1 : uvalid b = true) (hck : kmays l d = true) (hcu : munkOk scF.tk u d = false) :
 Calls Tryz.prog 15 #[.agg #[.string ⟨a.toArray⟩, .string ⟨b.toArray⟩, .slice lo1 l.length lc1, .int .u32 (n : Int), .string ⟨u.toArray⟩], .int .i64 d] w fun e w' => e = .returned (.bool false) ∧ Below w.heap.size w w' := by
 obtain ⟨A, eA⟩ : ∃ X : ByteArray, (⟨a.toArray⟩ : ByteArray) = X := ⟨_, rfl⟩
 have HAD : Hid (A.data.toList = a) := Lib.hid (by rw [← eA])
 have HAZ : A.size ≤ 1000000 := by rw [← eA]; simp [ByteArray.size]; omega
 obtain ⟨B, eB⟩ : ∃ X : ByteArray, (⟨b.toArray⟩ : ByteArray) = X := ⟨_, rfl⟩
 have HBD : Hid (B.data.toList = b) := Lib.hid (by rw [← eB])
 have HBZ : B.size ≤ 1000000 := by rw [← eB]; simp [ByteArray.size]; omega
 obtain ⟨U, eU⟩ : ∃ X : ByteArray, (⟨u.toArray⟩ : ByteArray) = X := ⟨_, rfl⟩
 have HUD : Hid (U.data.toList = u) := Lib.hid (by rw [← eU])
 have HUZ : U.size ≤ 1000000 := by rw [← eU]; simp [ByteArray.size]; omega
 rw [eA, eB, eU]
 clear eA eB eU
 obtain ⟨bx, hbx⟩ : ∃ b, w.heap.size = b := ⟨_, rfl⟩
 obtain ⟨W, hW⟩ : ∃ W, w.alloc (.cells #[.string A, .string B, .slice lo1 l.length lc1, .int .u32 (n : Int), .string U] 26) = W := ⟨_, rfl⟩
 have hb : Below w.heap.size w W := by rw [← hW]; exact below_new _ _
 have hrow : W.heap[bx]? = some (.cells #[.string A, .string B, .slice lo1 l.length lc1, .int .u32 (n : Int), .string U] 26 (0, 0)) := by rw [← hW, ← hbx]; exact new_row _ _ _
 have H1 := Lib.hid (Fx.nil W)
 have H2 := Lib.hid (H1.out.base (hb))
 clear H1
 have H3 := Lib.hid (H2.out.row (hrow))
 clear H2
 have H4 := Lib.hid (H3.out.krels (hk1.below hb))
 clear H3
 have HW := Lib.hid hW
 have HBX := Lib.hid hbx
 have HF := Lib.hid hf
 have HWT := Lib.hid hw
 have HDD := Lib.hid hd
 have d1 : decide (d ≥ 0) = true := decide_eq_true hcd
 have q1 : IntKind.i64.wrap (d - 1) = d - 1 := IntWalk.i64_in _ (by omega)
 have d2 : decide (0 ≤ d) = true := decide_eq_true hcd
 have HD0 := Lib.hid hcd
 have HCt0 := Lib.hid hct0
 have HCt1 := Lib.hid hct1
 have HCk := Lib.hid hck
 have HCu := Lib.hid hcu
 clear hW hbx hb hrow hk1 hf hw hd hu hcd hct0 hct1 hck hcu hal hbl
 go_enter Tryz.func15, Tryz.ntmps15
 go_wp2_with fail
 rw [HW.out, HBX.out]
 obtain ⟨D, hD⟩ : ∃ D, W.drew = D := ⟨_, rfl⟩
 have hb : Below W.heap.size W D := by rw [← hD]; exact (Below.refl _ _).drew
 have H5 := Lib.hid (H4.out.below hb)
 clear hb H4
 have hne : Nonempty {w' : World // (fun w' => w'.heap[bx]? = some (.cells #[.string A, .string B, .slice lo1 l.length lc1, .int .u32 (n : Int), .string U] 26 (0, 0))) w'} := ⟨⟨_, H5.out.is.2.1⟩⟩
 refine wp_region_seq (S := fun w' => w'.heap[bx]? = some (.cells #[.string A, .string B, .slice lo1 l.length lc1, .int .u32 (n : Int), .string U] 26 (0, 0))) [(0, true), (1, true), (2, true), (3, true), (4, true), (5, false), (6, true), (7, true), (8, true), (9, true), (10, false), (11, true), (12, true), (13, true), (14, true), (15, true), (16, true), (17, false), (18, true), (19, true), (20, true), (21, true), (22, true), (23, false), (24, false), (25, true), (26, true)] (by kernel_rfl) (by kernel_rfl) (by kernel_rfl) (by kernel_rfl) (by rw [hD]; exact H5.out.is.2.1) ?_
 rw [hD]
 clear hD
 (refine seq_take _ rfl (fun KC hK => ?_); go_simp; (first | refine hK _ ?_ | refine ⟨_, fun _ _ => rfl, hK _ ?_⟩ | (refine ⟨undef, by rw [if_neg (by simp [undef])], ?_⟩; refine hK _ ?_)); clear hK KC)
 (refine seq_take _ rfl (fun KC hK => ?_); go_simp; (first | refine hK _ ?_ | refine ⟨_, fun _ _ => rfl, hK _ ?_⟩ | (refine ⟨undef, by rw [if_neg (by simp [undef])], ?_⟩; refine hK _ ?_)); clear hK KC)
 (refine seq_take _ rfl (fun KC hK => ?_); go_simp; (first | refine hK _ ?_ | refine ⟨_, fun _ _ => rfl, hK _ ?_⟩ | (refine ⟨undef, by rw [if_neg (by simp [undef])], ?_⟩; refine hK _ ?_)); clear hK KC)
 (refine seq_take _ rfl (fun KC hK => ?_); go_simp; (first | refine hK _ ?_ | refine ⟨_, fun _ _ => rfl, hK _ ?_⟩ | (refine ⟨undef, by rw [if_neg (by simp [undef])], ?_⟩; refine hK _ ?_)); clear hK KC)
 refine seq_take _ rfl (fun KC hK => ?_); go_simp
 refine ⟨.string A, fun a ha => by (have e0 : a.cell? ⟨bx, 0, none⟩ = some (.string A) := row_cell ha (j := 0) rfl); simp only [e0, Result.andThen], hK _ ?_⟩
 clear hK KC
 refine seq_come _ rfl (fun KC hK => ?_); go_simp
 refine (text8_key A D HAZ).mono ?_; rintro e wz ⟨rfl, rfl⟩
 rw [HAD.out, HCt0.out]
 go_simp; refine hK.out _ _ (H5.out.is.2.1) ?_; clear hK KC
 (refine seq_take _ rfl (fun KC hK => ?_); go_simp; (first | refine hK _ ?_ | refine ⟨_, fun _ _ => rfl, hK _ ?_⟩ | (refine ⟨undef, by rw [if_neg (by simp [undef])], ?_⟩; refine hK _ ?_)); clear hK KC)
 (refine seq_take _ rfl (fun KC hK => ?_); go_simp; (first | refine hK _ ?_ | refine ⟨_, fun _ _ => rfl, hK _ ?_⟩ | (refine ⟨undef, by rw [if_neg (by simp [undef])], ?_⟩; refine hK _ ?_)); clear hK KC)
 (refine seq_take _ rfl (fun KC hK => ?_); go_simp; (first | refine hK _ ?_ | refine ⟨_, fun _ _ => rfl, hK _ ?_⟩ | (refine ⟨undef, by rw [if_neg (by simp [undef])], ?_⟩; refine hK _ ?_)); clear hK KC)
 refine seq_take _ rfl (fun KC hK => ?_); go_simp
 refine ⟨.string B, fun a ha => by (have e0 : a.cell? ⟨bx, 1, none⟩ = some (.string B) := row_cell ha (j := 1) rfl); simp only [e0, Result.andThen], hK _ ?_⟩
 clear hK KC
 refine seq_come _ rfl (fun KC hK => ?_); go_simp
 refine (text8_key B D HBZ).mono ?_; rintro e wz ⟨rfl, rfl⟩
 rw [HBD.out, HCt1.out]
 go_simp; refine hK.out _ _ (H5.out.is.2.1) ?_; clear hK KC
 (refine seq_take _ rfl (fun KC hK => ?_); go_simp; (first | refine hK _ ?_ | refine ⟨_, fun _ _ => rfl, hK _ ?_⟩ | (refine ⟨undef, by rw [if_neg (by simp [undef])], ?_⟩; refine hK _ ?_)); clear hK KC)
 (refine seq_take _ rfl (fun KC hK => ?_); go_simp; (first | refine hK _ ?_ | refine ⟨_, fun _ _ => rfl, hK _ ?_⟩ | (refine ⟨undef, by rw [if_neg (by simp [undef])], ?_⟩; refine hK _ ?_)); clear hK KC)
 (refine seq_take _ rfl (fun KC hK => ?_); go_simp; (first | refine hK _ ?_ | refine ⟨_, fun _ _ => rfl, hK _ ?_⟩ | (refine ⟨undef, by rw [if_neg (by simp [undef])], ?_⟩; refine hK _ ?_)); clear hK KC)
 refine seq_take _ rfl (fun KC hK => ?_); go_simp
 refine ⟨.slice lo1 l.length lc1, fun a ha => by (have e0 : a.cell? ⟨bx, 2, none⟩ = some (.slice lo1 l.length lc1) := row_cell ha (j := 2) rfl); simp only [e0, Result.andThen], hK _ ?_⟩
 clear hK KC
 (refine seq_take _ rfl (fun KC hK => ?_); go_simp; (first | refine hK _ ?_ | refine ⟨_, fun _ _ => rfl, hK _ ?_⟩ | (refine ⟨undef, by rw [if_neg (by simp [undef])], ?_⟩; refine hK _ ?_)); clear hK KC)
 (refine seq_take _ rfl (fun KC hK => ?_); go_simp; (first | refine hK _ ?_ | refine ⟨_, fun _ _ => rfl, hK _ ?_⟩ | (refine ⟨undef, by rw [if_neg (by simp [undef])], ?_⟩; refine hK _ ?_)); clear hK KC)
 refine seq_come _ rfl (fun KC hK => ?_); go_simp
 refine (mayks_any8 l lo1 lc1 Q D (d - 1) HF.out (H5.out.is.1) (by have := HDD.out; have := HD0.out; omega) HWT.out).mono ?_; rintro e v3 ⟨hb, gg, rfl, rfl⟩
 rw [kmays_ref d HD0.out, HCk.out]
 have H6 := Lib.hid (H5.out.below hb)
 clear hb H5
 go_simp; refine hK.out _ _ (H6.out.is.2.1) ?_; clear hK KC
 (refine seq_take _ rfl (fun KC hK => ?_); go_simp; (first | refine hK _ ?_ | refine ⟨_, fun _ _ => rfl, hK _ ?_⟩ | (refine ⟨undef, by rw [if_neg (by simp [undef])], ?_⟩; refine hK _ ?_)); clear hK KC)
 (refine seq_take _ rfl (fun KC hK => ?_); go_simp; (first | refine hK _ ?_ | refine ⟨_, fun _ _ => rfl, hK _ ?_⟩ | (refine ⟨undef, by rw [if_neg (by simp [undef])], ?_⟩; refine hK _ ?_)); clear hK KC)
 (refine seq_take _ rfl (fun KC hK => ?_); go_simp; (first | refine hK _ ?_ | refine ⟨_, fun _ _ => rfl, hK _ ?_⟩ | (refine ⟨undef, by rw [if_neg (by simp [undef])], ?_⟩; refine hK _ ?_)); clear hK KC)
 refine seq_take _ rfl (fun KC hK => ?_); go_simp
 refine ⟨.string U, fun a ha => by (have e0 : a.cell? ⟨bx, 4, none⟩ = some (.string U) := row_cell ha (j := 4) rfl); simp only [e0, Result.andThen], hK _ ?_⟩
 clear hK KC
 (refine seq_take _ rfl (fun KC hK => ?_); go_simp; (first | refine hK _ ?_ | refine ⟨_, fun _ _ => rfl, hK _ ?_⟩ | (refine ⟨undef, by rw [if_neg (by simp [undef])], ?_⟩; refine hK _ ?_)); clear hK KC)
 refine seq_come _ rfl (fun KC hK => ?_); go_simp
 refine (sc_tab v3).mono ?_; rintro e v4 ⟨to, rfl, HNT, hb⟩
 have H7 := Lib.hid (H6.out.below hb)
 clear hb H6
 go_simp; refine hK.out _ _ (H7.out.is.2.1) ?_; clear hK KC
 refine seq_come _ rfl (fun KC hK => ?_); go_simp
 refine (unknown8_any U d [10, 18, 26, 32] to 4 v4 HNT (by decide) (Lib.hid (by decide)) HUZ HDD.out.2).mono ?_; rintro e v5 ⟨rfl, hb⟩
 rw [HUD.out, ← munkOk_rtk sc_rtk, HCu.out, d2]
 have H8 := Lib.hid (H7.out.below hb)
 clear hb H7
 go_simp; refine hK.out _ _ (H8.out.is.2.1) ?_; clear hK KC
 (refine seq_take _ rfl (fun KC hK => ?_); go_simp; (first | refine hK _ ?_ | refine ⟨_, fun _ _ => rfl, hK _ ?_⟩ | (refine ⟨undef, by rw [if_neg (by simp [undef])], ?_⟩; refine hK _ ?_)); clear hK KC)
 (refine seq_take _ rfl (fun KC hK => ?_); go_simp; (first | refine hK _ ?_ | refine ⟨_, fun _ _ => rfl, hK _ ?_⟩ | (refine ⟨undef, by rw [if_neg (by simp [undef])], ?_⟩; refine hK _ ?_)); clear hK KC)
 refine seq_done ?_
 clear hne
 go_wp2_with fail
 go_ret
 exact ⟨rfl, H8.out.is.2.2.1⟩
set_option maxRecDepth 1000000 in
set_option maxHeartbeats 16000000 in
theorem scrmay_5 (a : List UInt8) (b : List UInt8) (l : List KV) (n : Nat) (u : List UInt8) (lo1 : Option Addr) (lc1 : Nat) (Q : Nat → Prop) (d : Int) (w : World) (hk1 : KRels w Q l lo1 0) (hf : ksfit l) (hw : ksw l ≤ 100000) (hu : u.length ≤ 1000000) (hal : a.length ≤ 1000000) (hbl : b.length ≤ 1000000) (hd : -9223372036854775808 ≤ d ∧ d ≤ 9223372036854775807) (hcd : 0 ≤ d) (hct0 : uvalid a = true) (hct1 : uvalid b = true) (hck : kmays l d = true) (hcu : munkOk scF.tk u d = true) :
 Calls Tryz.prog 15 #[.agg #[.string ⟨a.toArray⟩, .string ⟨b.toArray⟩, .slice lo1 l.length lc1, .int .u32 (n : Int), .string ⟨u.toArray⟩], .int .i64 d] w fun e w' => e = .returned (.bool true) ∧ Below w.heap.size w w' := by
 obtain ⟨A, eA⟩ : ∃ X : ByteArray, (⟨a.toArray⟩ : ByteArray) = X := ⟨_, rfl⟩
 have HAD : Hid (A.data.toList = a) := Lib.hid (by rw [← eA])
 have HAZ : A.size ≤ 1000000 := by rw [← eA]; simp [ByteArray.size]; omega
 obtain ⟨B, eB⟩ : ∃ X : ByteArray, (⟨b.toArray⟩ : ByteArray) = X := ⟨_, rfl⟩
 have HBD : Hid (B.data.toList = b) := Lib.hid (by rw [← eB])
 have HBZ : B.size ≤ 1000000 := by rw [← eB]; simp [ByteArray.size]; omega
 obtain ⟨U, eU⟩ : ∃ X : ByteArray, (⟨u.toArray⟩ : ByteArray) = X := ⟨_, rfl⟩
 have HUD : Hid (U.data.toList = u) := Lib.hid (by rw [← eU])
 have HUZ : U.size ≤ 1000000 := by rw [← eU]; simp [ByteArray.size]; omega
 rw [eA, eB, eU]
 clear eA eB eU
 obtain ⟨bx, hbx⟩ : ∃ b, w.heap.size = b := ⟨_, rfl⟩
 obtain ⟨W, hW⟩ : ∃ W, w.alloc (.cells #[.string A, .string B, .slice lo1 l.length lc1, .int .u32 (n : Int), .string U] 26) = W := ⟨_, rfl⟩
 have hb : Below w.heap.size w W := by rw [← hW]; exact below_new _ _
 have hrow : W.heap[bx]? = some (.cells #[.string A, .string B, .slice lo1 l.length lc1, .int .u32 (n : Int), .string U] 26 (0, 0)) := by rw [← hW, ← hbx]; exact new_row _ _ _
 have H1 := Lib.hid (Fx.nil W)
 have H2 := Lib.hid (H1.out.base (hb))
 clear H1
 have H3 := Lib.hid (H2.out.row (hrow))
 clear H2
 have H4 := Lib.hid (H3.out.krels (hk1.below hb))
 clear H3
 have HW := Lib.hid hW
 have HBX := Lib.hid hbx
 have HF := Lib.hid hf
 have HWT := Lib.hid hw
 have HDD := Lib.hid hd
 have d1 : decide (d ≥ 0) = true := decide_eq_true hcd
 have q1 : IntKind.i64.wrap (d - 1) = d - 1 := IntWalk.i64_in _ (by omega)
 have d2 : decide (0 ≤ d) = true := decide_eq_true hcd
 have HD0 := Lib.hid hcd
 have HCt0 := Lib.hid hct0
 have HCt1 := Lib.hid hct1
 have HCk := Lib.hid hck
 have HCu := Lib.hid hcu
 clear hW hbx hb hrow hk1 hf hw hd hu hcd hct0 hct1 hck hcu hal hbl
 go_enter Tryz.func15, Tryz.ntmps15
 go_wp2_with fail
 rw [HW.out, HBX.out]
 obtain ⟨D, hD⟩ : ∃ D, W.drew = D := ⟨_, rfl⟩
 have hb : Below W.heap.size W D := by rw [← hD]; exact (Below.refl _ _).drew
 have H5 := Lib.hid (H4.out.below hb)
 clear hb H4
 have hne : Nonempty {w' : World // (fun w' => w'.heap[bx]? = some (.cells #[.string A, .string B, .slice lo1 l.length lc1, .int .u32 (n : Int), .string U] 26 (0, 0))) w'} := ⟨⟨_, H5.out.is.2.1⟩⟩
 refine wp_region_seq (S := fun w' => w'.heap[bx]? = some (.cells #[.string A, .string B, .slice lo1 l.length lc1, .int .u32 (n : Int), .string U] 26 (0, 0))) [(0, true), (1, true), (2, true), (3, true), (4, true), (5, false), (6, true), (7, true), (8, true), (9, true), (10, false), (11, true), (12, true), (13, true), (14, true), (15, true), (16, true), (17, false), (18, true), (19, true), (20, true), (21, true), (22, true), (23, false), (24, false), (25, true), (26, true)] (by kernel_rfl) (by kernel_rfl) (by kernel_rfl) (by kernel_rfl) (by rw [hD]; exact H5.out.is.2.1) ?_
 rw [hD]
 clear hD
 (refine seq_take _ rfl (fun KC hK => ?_); go_simp; (first | refine hK _ ?_ | refine ⟨_, fun _ _ => rfl, hK _ ?_⟩ | (refine ⟨undef, by rw [if_neg (by simp [undef])], ?_⟩; refine hK _ ?_)); clear hK KC)
 (refine seq_take _ rfl (fun KC hK => ?_); go_simp; (first | refine hK _ ?_ | refine ⟨_, fun _ _ => rfl, hK _ ?_⟩ | (refine ⟨undef, by rw [if_neg (by simp [undef])], ?_⟩; refine hK _ ?_)); clear hK KC)
 (refine seq_take _ rfl (fun KC hK => ?_); go_simp; (first | refine hK _ ?_ | refine ⟨_, fun _ _ => rfl, hK _ ?_⟩ | (refine ⟨undef, by rw [if_neg (by simp [undef])], ?_⟩; refine hK _ ?_)); clear hK KC)
 (refine seq_take _ rfl (fun KC hK => ?_); go_simp; (first | refine hK _ ?_ | refine ⟨_, fun _ _ => rfl, hK _ ?_⟩ | (refine ⟨undef, by rw [if_neg (by simp [undef])], ?_⟩; refine hK _ ?_)); clear hK KC)
 refine seq_take _ rfl (fun KC hK => ?_); go_simp
 refine ⟨.string A, fun a ha => by (have e0 : a.cell? ⟨bx, 0, none⟩ = some (.string A) := row_cell ha (j := 0) rfl); simp only [e0, Result.andThen], hK _ ?_⟩
 clear hK KC
 refine seq_come _ rfl (fun KC hK => ?_); go_simp
 refine (text8_key A D HAZ).mono ?_; rintro e wz ⟨rfl, rfl⟩
 rw [HAD.out, HCt0.out]
 go_simp; refine hK.out _ _ (H5.out.is.2.1) ?_; clear hK KC
 (refine seq_take _ rfl (fun KC hK => ?_); go_simp; (first | refine hK _ ?_ | refine ⟨_, fun _ _ => rfl, hK _ ?_⟩ | (refine ⟨undef, by rw [if_neg (by simp [undef])], ?_⟩; refine hK _ ?_)); clear hK KC)
 (refine seq_take _ rfl (fun KC hK => ?_); go_simp; (first | refine hK _ ?_ | refine ⟨_, fun _ _ => rfl, hK _ ?_⟩ | (refine ⟨undef, by rw [if_neg (by simp [undef])], ?_⟩; refine hK _ ?_)); clear hK KC)
 (refine seq_take _ rfl (fun KC hK => ?_); go_simp; (first | refine hK _ ?_ | refine ⟨_, fun _ _ => rfl, hK _ ?_⟩ | (refine ⟨undef, by rw [if_neg (by simp [undef])], ?_⟩; refine hK _ ?_)); clear hK KC)
 refine seq_take _ rfl (fun KC hK => ?_); go_simp
 refine ⟨.string B, fun a ha => by (have e0 : a.cell? ⟨bx, 1, none⟩ = some (.string B) := row_cell ha (j := 1) rfl); simp only [e0, Result.andThen], hK _ ?_⟩
 clear hK KC
 refine seq_come _ rfl (fun KC hK => ?_); go_simp
 refine (text8_key B D HBZ).mono ?_; rintro e wz ⟨rfl, rfl⟩
 rw [HBD.out, HCt1.out]
 go_simp; refine hK.out _ _ (H5.out.is.2.1) ?_; clear hK KC
 (refine seq_take _ rfl (fun KC hK => ?_); go_simp; (first | refine hK _ ?_ | refine ⟨_, fun _ _ => rfl, hK _ ?_⟩ | (refine ⟨undef, by rw [if_neg (by simp [undef])], ?_⟩; refine hK _ ?_)); clear hK KC)
 (refine seq_take _ rfl (fun KC hK => ?_); go_simp; (first | refine hK _ ?_ | refine ⟨_, fun _ _ => rfl, hK _ ?_⟩ | (refine ⟨undef, by rw [if_neg (by simp [undef])], ?_⟩; refine hK _ ?_)); clear hK KC)
 (refine seq_take _ rfl (fun KC hK => ?_); go_simp; (first | refine hK _ ?_ | refine ⟨_, fun _ _ => rfl, hK _ ?_⟩ | (refine ⟨undef, by rw [if_neg (by simp [undef])], ?_⟩; refine hK _ ?_)); clear hK KC)
 refine seq_take _ rfl (fun KC hK => ?_); go_simp
 refine ⟨.slice lo1 l.length lc1, fun a ha => by (have e0 : a.cell? ⟨bx, 2, none⟩ = some (.slice lo1 l.length lc1) := row_cell ha (j := 2) rfl); simp only [e0, Result.andThen], hK _ ?_⟩
 clear hK KC
 (refine seq_take _ rfl (fun KC hK => ?_); go_simp; (first | refine hK _ ?_ | refine ⟨_, fun _ _ => rfl, hK _ ?_⟩ | (refine ⟨undef, by rw [if_neg (by simp [undef])], ?_⟩; refine hK _ ?_)); clear hK KC)
 (refine seq_take _ rfl (fun KC hK => ?_); go_simp; (first | refine hK _ ?_ | refine ⟨_, fun _ _ => rfl, hK _ ?_⟩ | (refine ⟨undef, by rw [if_neg (by simp [undef])], ?_⟩; refine hK _ ?_)); clear hK KC)
 refine seq_come _ rfl (fun KC hK => ?_); go_simp
 refine (mayks_any8 l lo1 lc1 Q D (d - 1) HF.out (H5.out.is.1) (by have := HDD.out; have := HD0.out; omega) HWT.out).mono ?_; rintro e v3 ⟨hb, gg, rfl, rfl⟩
 rw [kmays_ref d HD0.out, HCk.out]
 have H6 := Lib.hid (H5.out.below hb)
 clear hb H5
 go_simp; refine hK.out _ _ (H6.out.is.2.1) ?_; clear hK KC
 (refine seq_take _ rfl (fun KC hK => ?_); go_simp; (first | refine hK _ ?_ | refine ⟨_, fun _ _ => rfl, hK _ ?_⟩ | (refine ⟨undef, by rw [if_neg (by simp [undef])], ?_⟩; refine hK _ ?_)); clear hK KC)
 (refine seq_take _ rfl (fun KC hK => ?_); go_simp; (first | refine hK _ ?_ | refine ⟨_, fun _ _ => rfl, hK _ ?_⟩ | (refine ⟨undef, by rw [if_neg (by simp [undef])], ?_⟩; refine hK _ ?_)); clear hK KC)
 (refine seq_take _ rfl (fun KC hK => ?_); go_simp; (first | refine hK _ ?_ | refine ⟨_, fun _ _ => rfl, hK _ ?_⟩ | (refine ⟨undef, by rw [if_neg (by simp [undef])], ?_⟩; refine hK _ ?_)); clear hK KC)
 refine seq_take _ rfl (fun KC hK => ?_); go_simp
 refine ⟨.string U, fun a ha => by (have e0 : a.cell? ⟨bx, 4, none⟩ = some (.string U) := row_cell ha (j := 4) rfl); simp only [e0, Result.andThen], hK _ ?_⟩
 clear hK KC
 (refine seq_take _ rfl (fun KC hK => ?_); go_simp; (first | refine hK _ ?_ | refine ⟨_, fun _ _ => rfl, hK _ ?_⟩ | (refine ⟨undef, by rw [if_neg (by simp [undef])], ?_⟩; refine hK _ ?_)); clear hK KC)
 refine seq_come _ rfl (fun KC hK => ?_); go_simp
 refine (sc_tab v3).mono ?_; rintro e v4 ⟨to, rfl, HNT, hb⟩
 have H7 := Lib.hid (H6.out.below hb)
 clear hb H6
 go_simp; refine hK.out _ _ (H7.out.is.2.1) ?_; clear hK KC
 refine seq_come _ rfl (fun KC hK => ?_); go_simp
 refine (unknown8_any U d [10, 18, 26, 32] to 4 v4 HNT (by decide) (Lib.hid (by decide)) HUZ HDD.out.2).mono ?_; rintro e v5 ⟨rfl, hb⟩
 rw [HUD.out, ← munkOk_rtk sc_rtk, HCu.out, d2]
 have H8 := Lib.hid (H7.out.below hb)
 clear hb H7
 go_simp; refine hK.out _ _ (H8.out.is.2.1) ?_; clear hK KC
 (refine seq_take _ rfl (fun KC hK => ?_); go_simp; (first | refine hK _ ?_ | refine ⟨_, fun _ _ => rfl, hK _ ?_⟩ | (refine ⟨undef, by rw [if_neg (by simp [undef])], ?_⟩; refine hK _ ?_)); clear hK KC)
 (refine seq_take _ rfl (fun KC hK => ?_); go_simp; (first | refine hK _ ?_ | refine ⟨_, fun _ _ => rfl, hK _ ?_⟩ | (refine ⟨undef, by rw [if_neg (by simp [undef])], ?_⟩; refine hK _ ?_)); clear hK KC)
 refine seq_done ?_
 clear hne
 go_wp2_with fail
 go_ret
 exact ⟨rfl, H8.out.is.2.2.1⟩
set_option maxRecDepth 1000000 in
set_option maxHeartbeats 16000000 in
theorem sc_rmay (x : (List UInt8 × List UInt8 × List KV × Nat) × List UInt8) (cs : List Value) (Q : Nat → Prop) (d : Int) (w : World) (hf : ksfit x.1.2.2.1) (hr : ScRel w Q x cs) (hw : ksw x.1.2.2.1 ≤ 100000) (hal : x.1.1.length ≤ 1000000) (hbl : x.1.2.1.length ≤ 1000000) (hul : x.2.length ≤ 1000000) (hd : -9223372036854775808 ≤ d ∧ d ≤ 9223372036854775807) :
 Calls Tryz.prog 15 #[.agg cs.toArray, .int .i64 d] w fun e w' => e = .returned (.bool (sc_may d x)) ∧ Below w.heap.size w w' := by
 obtain ⟨lo1, lc1, rfl, hk1⟩ := hr
 obtain ⟨⟨a, b, l, n⟩, u⟩ := x
 dsimp only [strV]
 by_cases hcd : 0 ≤ d
 case neg =>
  rw [show sc_may d ((a, b, l, n), u) = false by unfold sc_may; rw [decide_eq_false hcd]; rfl]
  exact scrmay_0 a b l n u lo1 lc1 Q d w hk1 hf hw hul hal hbl hd hcd
 cases hct0 : uvalid a with
 | false =>
  have e : sc_may d ((a, b, l, n), u) = false := by simp [sc_may, hct0]
  rw [e]
  exact scrmay_1 a b l n u lo1 lc1 Q d w hk1 hf hw hul hal hbl hd hcd hct0
 | true =>
  cases hct1 : uvalid b with
  | false =>
   have e : sc_may d ((a, b, l, n), u) = false := by simp [sc_may, hct0, hct1]
   rw [e]
   exact scrmay_2 a b l n u lo1 lc1 Q d w hk1 hf hw hul hal hbl hd hcd hct0 hct1
  | true =>
   cases hck : kmays l d with
   | false =>
    have e : sc_may d ((a, b, l, n), u) = false := by simp [sc_may, hct0, hct1, hck]
    rw [e]
    exact scrmay_3 a b l n u lo1 lc1 Q d w hk1 hf hw hul hal hbl hd hcd hct0 hct1 hck
   | true =>
    cases hcu : munkOk scF.tk u d with
    | false =>
     have e : sc_may d ((a, b, l, n), u) = false := by simp [sc_may, hct0, hct1, hck, hcu]
     rw [e]
     exact scrmay_4 a b l n u lo1 lc1 Q d w hk1 hf hw hul hal hbl hd hcd hct0 hct1 hck hcu
    | true =>
     have e : sc_may d ((a, b, l, n), u) = true := by simp [sc_may, hcd, hct0, hct1, hck, hcu]
     rw [e]
     exact scrmay_5 a b l n u lo1 lc1 Q d w hk1 hf hw hul hal hbl hd hcd hct0 hct1 hck hcu
set_option maxRecDepth 1000000 in
set_option maxHeartbeats 16000000 in
theorem sc_rout (x : (List UInt8 × List UInt8 × List KV × Nat) × List UInt8) (cs : List Value) (Q : Nat → Prop) (d : Int) (w : World) (hf : sc_fit x) (hr : ScRel w Q x cs) (hw : ksw x.1.2.2.1 ≤ 100000) (hal : x.1.1.length ≤ 1000000) (hbl : x.1.2.1.length ≤ 1000000) (hul : x.2.length ≤ 1000000) (hm : sc_may d x = true) :
 Calls Tryz.prog 18 #[.agg cs.toArray] w fun e w' => e = .returned (.string ⟨(sc_out x).toArray⟩) ∧ Below w.heap.size w w' := by
 obtain ⟨lo1, lc1, rfl, hk1⟩ := hr
 obtain ⟨⟨a, b, l, n⟩, u⟩ := x
 dsimp only [strV]
 obtain ⟨A, eA⟩ : ∃ X : ByteArray, (⟨a.toArray⟩ : ByteArray) = X := ⟨_, rfl⟩
 have HAN := Lib.hid eA
 have HAD : Hid (A.data.toList = a) := Lib.hid (by rw [← eA])
 obtain ⟨B, eB⟩ : ∃ X : ByteArray, (⟨b.toArray⟩ : ByteArray) = X := ⟨_, rfl⟩
 have HBN := Lib.hid eB
 have HBD : Hid (B.data.toList = b) := Lib.hid (by rw [← eB])
 obtain ⟨U, eU⟩ : ∃ X : ByteArray, (⟨u.toArray⟩ : ByteArray) = X := ⟨_, rfl⟩
 have HUN := Lib.hid eU
 have HUD : Hid (U.data.toList = u) := Lib.hid (by rw [← eU])
 rw [eA, eB, eU]
 clear eA eB eU
 dsimp only at hw hal hbl hul
 have hkm : kmays l d = true := by
  unfold sc_may at hm
  simp only [Bool.and_eq_true] at hm
  exact hm.2.1.2
 have HNL : Hid (n < 4294967296) := Lib.hid hf.2.1
 have HF : Hid (ksfit l) := Lib.hid hf.1
 obtain ⟨P2, hP2⟩ : ∃ X : ByteArray, (⟨(wvarP 4 n).flatten.toArray⟩ : ByteArray) = X := ⟨_, rfl⟩
 have HPV := Lib.hid (fun w' => putvar8_any 4 n w' (by omega) (by have := HNL.out; omega))
 rw [hP2] at HPV
 obtain ⟨T0, hT0⟩ : ∃ X : ByteArray, (⟨(wbytesP 1 a).flatten.toArray⟩ : ByteArray) = X := ⟨_, rfl⟩
 have HPT0 := Lib.hid (fun w' => puttext8_any 1 A a w' (by omega) HAD hal)
 rw [hT0] at HPT0
 obtain ⟨T1, hT1⟩ : ∃ X : ByteArray, (⟨(wbytesP 2 b).flatten.toArray⟩ : ByteArray) = X := ⟨_, rfl⟩
 have HPT1 := Lib.hid (fun w' => puttext8_any 2 B b w' (by omega) HBD hbl)
 rw [hT1] at HPT1
 have hz2 : P2.size ≤ 20 := by rw [← hP2, ba_size]; exact wvarP_len 4 (by omega) (by omega) n
 have hzu : U.size ≤ 1000000 := by have h1 : U.size = u.length := (by rw [← HUD.out]; simp); omega
 have hzt0 : T0.size ≤ 1000020 := by rw [← hT0, ba_size]; have := (wbytesP_len 1 (by omega) (by omega) a).2; omega
 have hzt1 : T1.size ≤ 1000020 := by rw [← hT1, ba_size]; have := (wbytesP_len 2 (by omega) (by omega) b).2; omega
 have hko : (kouts 3 l).length ≤ 100000 := by have := kouts_le 3 (by omega) l; omega
 have HFIN : Hid (∀ R : ByteArray, R.data.toList = kouts 3 l → (((T0 ++ T1) ++ R) ++ P2) ++ U = ⟨(sc_out ((a, b, l, n), u)).toArray⟩) := Lib.hid (fun R hR => by
  refine ByteArray.ext (Array.ext' ?_)
  rw [← hT0, ← hT1, ← hP2]
  simp only [ByteArray.data_append, Array.toList_append, hR, HUD.out]
  show _ = sc_out ((a, b, l, n), u)
  unfold sc_out
  simp only [wbytesP_raw 1 (by omega) (by omega), wbytesP_raw 2 (by omega) (by omega), wvarP_raw 4 (by omega) (by omega)] <;> simp)
 obtain ⟨bx, hbx⟩ : ∃ b, w.heap.size = b := ⟨_, rfl⟩
 obtain ⟨W, hW⟩ : ∃ W, w.alloc (.cells #[.string A, .string B, .slice lo1 l.length lc1, .int .u32 (n : Int), .string U] 26) = W := ⟨_, rfl⟩
 have hb : Below w.heap.size w W := by rw [← hW]; exact below_new _ _
 have hrow : W.heap[bx]? = some (.cells #[.string A, .string B, .slice lo1 l.length lc1, .int .u32 (n : Int), .string U] 26 (0, 0)) := by rw [← hW, ← hbx]; exact new_row _ _ _
 have H1 := Lib.hid (Fx.nil W)
 have H2 := Lib.hid (H1.out.base (hb))
 clear H1
 have H3 := Lib.hid (H2.out.row (hrow))
 clear H2
 have H4 := Lib.hid (H3.out.krels (hk1.below hb))
 clear H3
 have HW := Lib.hid hW
 have HBX := Lib.hid hbx
 have HWT := Lib.hid hw
 have HKM := Lib.hid hkm
 have q1 := u64_wrap32 HNL.out
 clear hW hbx hb hrow hk1 hf hw hm hkm hP2 hT0 hT1 hal hbl hul
 go_enter Tryz.func18, Tryz.ntmps18
 go_wp2_with fail
 rw [HW.out, HBX.out]
 obtain ⟨D, hD⟩ : ∃ D, W.drew = D := ⟨_, rfl⟩
 have hb : Below W.heap.size W D := by rw [← hD]; exact (Below.refl _ _).drew
 have H5 := Lib.hid (H4.out.below hb)
 clear hb H4
 have hne : Nonempty {w' : World // (fun w' => w'.heap[bx]? = some (.cells #[.string A, .string B, .slice lo1 l.length lc1, .int .u32 (n : Int), .string U] 26 (0, 0))) w'} := ⟨⟨_, H5.out.is.2.1⟩⟩
 refine wp_region_seq (S := fun w' => w'.heap[bx]? = some (.cells #[.string A, .string B, .slice lo1 l.length lc1, .int .u32 (n : Int), .string U] 26 (0, 0))) [(0, true), (1, true), (3, true), (4, true), (7, true), (8, true), (11, true), (12, true), (13, true), (16, true), (17, true), (2, false), (5, false), (6, true), (9, false), (10, true), (14, false), (15, true), (18, true), (19, true)] (by kernel_rfl) (by kernel_rfl) (by kernel_rfl) (by kernel_rfl) (by rw [hD]; exact H5.out.is.2.1) ?_
 rw [hD]
 clear hD
 (refine seq_take _ rfl (fun KC hK => ?_); go_simp; (first | refine hK _ ?_ | refine ⟨_, fun _ _ => rfl, hK _ ?_⟩ | (refine ⟨undef, by rw [if_neg (by simp [undef])], ?_⟩; refine hK _ ?_)); clear hK KC)
 refine seq_take _ rfl (fun KC hK => ?_); go_simp
 refine ⟨.string A, fun a ha => by (have e0 : a.cell? ⟨bx, 0, none⟩ = some (.string A) := row_cell ha (j := 0) rfl); simp only [e0, Result.andThen], hK _ ?_⟩
 clear hK KC
 (refine seq_take _ rfl (fun KC hK => ?_); go_simp; (first | refine hK _ ?_ | refine ⟨_, fun _ _ => rfl, hK _ ?_⟩ | (refine ⟨undef, by rw [if_neg (by simp [undef])], ?_⟩; refine hK _ ?_)); clear hK KC)
 refine seq_take _ rfl (fun KC hK => ?_); go_simp
 refine ⟨.string B, fun a ha => by (have e0 : a.cell? ⟨bx, 1, none⟩ = some (.string B) := row_cell ha (j := 1) rfl); simp only [e0, Result.andThen], hK _ ?_⟩
 clear hK KC
 (refine seq_take _ rfl (fun KC hK => ?_); go_simp; (first | refine hK _ ?_ | refine ⟨_, fun _ _ => rfl, hK _ ?_⟩ | (refine ⟨undef, by rw [if_neg (by simp [undef])], ?_⟩; refine hK _ ?_)); clear hK KC)
 refine seq_take _ rfl (fun KC hK => ?_); go_simp
 refine ⟨.slice lo1 l.length lc1, fun a ha => by (have e0 : a.cell? ⟨bx, 2, none⟩ = some (.slice lo1 l.length lc1) := row_cell ha (j := 2) rfl); simp only [e0, Result.andThen], hK _ ?_⟩
 clear hK KC
 (refine seq_take _ rfl (fun KC hK => ?_); go_simp; (first | refine hK _ ?_ | refine ⟨_, fun _ _ => rfl, hK _ ?_⟩ | (refine ⟨undef, by rw [if_neg (by simp [undef])], ?_⟩; refine hK _ ?_)); clear hK KC)
 refine seq_take _ rfl (fun KC hK => ?_); go_simp
 refine ⟨.int .u32 (n : Int), fun a ha => by (have e0 : a.cell? ⟨bx, 3, none⟩ = some (.int .u32 (n : Int)) := row_cell ha (j := 3) rfl); simp only [e0, Result.andThen], hK _ ?_⟩
 clear hK KC
 (refine seq_take _ rfl (fun KC hK => ?_); go_simp; (first | refine hK _ ?_ | refine ⟨_, fun _ _ => rfl, hK _ ?_⟩ | (refine ⟨undef, by rw [if_neg (by simp [undef])], ?_⟩; refine hK _ ?_)); clear hK KC)
 (refine seq_take _ rfl (fun KC hK => ?_); go_simp; (first | refine hK _ ?_ | refine ⟨_, fun _ _ => rfl, hK _ ?_⟩ | (refine ⟨undef, by rw [if_neg (by simp [undef])], ?_⟩; refine hK _ ?_)); clear hK KC)
 refine seq_take _ rfl (fun KC hK => ?_); go_simp
 refine ⟨.string U, fun a ha => by (have e0 : a.cell? ⟨bx, 4, none⟩ = some (.string U) := row_cell ha (j := 4) rfl); simp only [e0, Result.andThen], hK _ ?_⟩
 clear hK KC
 refine seq_come _ rfl (fun KC hK => ?_); go_simp
 refine (HPT0.out D).mono ?_; rintro e v1 ⟨rfl, hb⟩
 have H6 := Lib.hid (H5.out.below hb)
 clear hb H5
 go_simp; refine hK.out _ _ (H6.out.is.2.1) ?_; clear hK KC
 refine seq_come _ rfl (fun KC hK => ?_); go_simp
 refine (HPT1.out v1).mono ?_; rintro e v2 ⟨rfl, hb⟩
 have H7 := Lib.hid (H6.out.below hb)
 clear hb H6
 go_simp; refine hK.out _ _ (H7.out.is.2.1) ?_; clear hK KC
 have hov : ¬ 9223372036854775807 < T0.size + T1.size := by omega
 refine seq_take _ rfl (fun KC hK => ?_); go_simp
 (first | refine hK _ ?_ | (rw [if_neg hov]; refine hK _ ?_) | refine ⟨_, fun _ _ => rfl, hK _ ?_⟩ | (refine ⟨_, fun _ _ => by rw [if_neg hov], ?_⟩; refine hK _ ?_)); clear hK KC hov
 refine seq_come _ rfl (fun KC hK => ?_); go_simp
 refine (roks_any l 3 lo1 lc1 Q v2 d (by omega) HF.out (H7.out.is.1) HWT.out HKM.out).mono ?_; rintro e v3 ⟨hb, R, rfl, hR⟩
 have hzr : R.size ≤ 100000 := by have h1 : R.size = (kouts 3 l).length := (by rw [← hR.out]; simp); omega
 have H8 := Lib.hid (H7.out.below hb)
 clear hb H7
 go_simp; refine hK.out _ _ (H8.out.is.2.1) ?_; clear hK KC
 have hov : ¬ 9223372036854775807 < T0.size + T1.size + R.size := by omega
 refine seq_take _ rfl (fun KC hK => ?_); go_simp
 (first | refine hK _ ?_ | (rw [if_neg hov]; refine hK _ ?_) | refine ⟨_, fun _ _ => rfl, hK _ ?_⟩ | (refine ⟨_, fun _ _ => by rw [if_neg hov], ?_⟩; refine hK _ ?_)); clear hK KC hov
 refine seq_come _ rfl (fun KC hK => ?_); go_simp
 refine (HPV.out v3).mono ?_; rintro e v4 ⟨rfl, hb⟩
 have H9 := Lib.hid (H8.out.below hb)
 clear hb H8
 go_simp; refine hK.out _ _ (H9.out.is.2.1) ?_; clear hK KC
 have hov : ¬ 9223372036854775807 < T0.size + T1.size + R.size + P2.size := by omega
 refine seq_take _ rfl (fun KC hK => ?_); go_simp
 (first | refine hK _ ?_ | (rw [if_neg hov]; refine hK _ ?_) | refine ⟨_, fun _ _ => rfl, hK _ ?_⟩ | (refine ⟨_, fun _ _ => by rw [if_neg hov], ?_⟩; refine hK _ ?_)); clear hK KC hov
 have hov : ¬ 9223372036854775807 < T0.size + T1.size + R.size + P2.size + U.size := by omega
 refine seq_take _ rfl (fun KC hK => ?_); go_simp
 (first | refine hK _ ?_ | (rw [if_neg hov]; refine hK _ ?_) | refine ⟨_, fun _ _ => rfl, hK _ ?_⟩ | (refine ⟨_, fun _ _ => by rw [if_neg hov], ?_⟩; refine hK _ ?_)); clear hK KC hov
 (refine seq_take _ rfl (fun KC hK => ?_); go_simp; (first | refine hK _ ?_ | refine ⟨_, fun _ _ => rfl, hK _ ?_⟩ | (refine ⟨undef, by rw [if_neg (by simp [undef])], ?_⟩; refine hK _ ?_)); clear hK KC)
 refine seq_done ?_
 clear hne
 go_wp2_with fail
 go_ret
 exact ⟨by rw [← HFIN.out R hR.out]; rfl, H9.out.is.2.2.1⟩
set_option maxRecDepth 1000000 in
set_option maxHeartbeats 16000000 in
theorem sc_size (x : (List UInt8 × List UInt8 × List KV × Nat) × List UInt8) (cs : List Value) (Q : Nat → Prop) (w : World) (hf : sc_fit x) (hr : ScRel w Q x cs) (hm : sc_may 262144 x = true) :
 Calls Tryz.prog 19 #[.agg cs.toArray] w fun e w' => e = .returned (.int .i64 ((sc_out x).length : Int)) ∧ Below w.heap.size w w' := by
 have HL := Lib.hid (sc_lim hf)
 have HM := Lib.hid (fun w' (hb : Below w.heap.size w w') => sc_marshal x cs Q 262144 w' hf (scCel.upd (Upd.of_new (S := fun _ => False) hb) (fun _ _ h => h) (fun _ h => h) hr) (by omega))
 rw [hm] at HM
 obtain ⟨lo1, lc1, rfl, _⟩ := hr
 obtain ⟨o, ho⟩ : ∃ o, sc_out x = o := ⟨_, rfl⟩
 rw [ho] at HM HL ⊢
 obtain ⟨⟨a, b, l, n⟩, u⟩ := x
 dsimp only [strV] at HM ⊢
 obtain ⟨A, eA⟩ : ∃ X : ByteArray, (⟨a.toArray⟩ : ByteArray) = X := ⟨_, rfl⟩
 obtain ⟨B, eB⟩ : ∃ X : ByteArray, (⟨b.toArray⟩ : ByteArray) = X := ⟨_, rfl⟩
 obtain ⟨U, eU⟩ : ∃ X : ByteArray, (⟨u.toArray⟩ : ByteArray) = X := ⟨_, rfl⟩
 rw [eA, eB, eU] at HM ⊢
 clear eA eB eU hf hm ho
 obtain ⟨W, hW⟩ : ∃ W, w.alloc (.cells #[.string A, .string B, .slice lo1 l.length lc1, .int .u32 (n : Int), .string U] 26) = W := ⟨_, rfl⟩
 have HB0 : Hid (Below w.heap.size w W) := Lib.hid (by rw [← hW]; exact below_new _ _)
 have HW := Lib.hid hW
 clear hW
 go_enter Tryz.func19, Tryz.ntmps19
 go_wp2_with fail
 rw [HW.out]
 refine (HM.out W HB0.out).mono ?_; rintro e w1 ⟨hb, hcase⟩
 have HB1 := Lib.hid (below_step HB0.out hb)
 clear hb
 rw [if_pos rfl] at hcase
 subst hcase
 obtain ⟨P, hP⟩ : ∃ P : ByteArray, (⟨o.toArray⟩ : ByteArray) = P := ⟨_, rfl⟩
 have hz : P.size = o.length := by rw [← hP]; simp [ByteArray.size]
 rw [hP]
 have HZ := Lib.hid hz
 clear hP hz
 go_wp2_with fail
 go_ret
 exact ⟨by rw [HZ.out]; rfl, HB1.out⟩
theorem sc_enough {x : (List UInt8 × List UInt8 × List KV × Nat) × List UInt8} {d : Int} (_ : sc_fit x) (hw : ksw x.1.2.2.1 + x.2.length ≤ 100000) (h : sc_may d x = true) : sc_may 262144 x = true := by
  unfold sc_may at h ⊢
  simp only [Bool.and_eq_true, decide_eq_true_eq] at h ⊢
  exact ⟨by omega, ⟨h.2.1.1, kmays_enq (by omega) h.2.1.2⟩, munkOk_enough (by omega) h.2.2⟩
set_option maxRecDepth 1000000 in
set_option maxHeartbeats 16000000 in
theorem scwr_F (x : (List UInt8 × List UInt8 × List KV × Nat) × List UInt8) (cs : List Value) (P : Nat → Prop) (d : Int) (w : World) (hlim : kslim x.1.2.2.1) (hfit : ksfit x.1.2.2.1) (hlen : x.1.2.2.1.length ≤ 9223372036854775807) (hn : x.1.2.2.2 < 4294967296) (hxa : x.1.1.length ≤ 9223372036854775807) (hxb : x.1.2.1.length ≤ 9223372036854775807) (hxu : x.2.length ≤ 9223372036854775807) (hr : ScRel w P x cs) (hd : -9223372036854775808 ≤ d ∧ d ≤ 9223372036854775807) (hg : Glob w) (hm : sc_may d x = false) :
 Calls Tryz.prog 4 #[.agg cs.toArray, .int .i64 d] w fun e w' => e = .returned (.bool true) ∧ Below w.heap.size w w' := by
 obtain ⟨lo1, lc1, rfl, hk1⟩ := hr
 obtain ⟨⟨a, b, l, n⟩, u⟩ := x
 dsimp only [strV]
 obtain ⟨A, eA⟩ : ∃ X : ByteArray, (⟨a.toArray⟩ : ByteArray) = X := ⟨_, rfl⟩
 have HAN := Lib.hid eA
 have HAD : Hid (A.data.toList = a) := Lib.hid (by rw [← eA])
 obtain ⟨B, eB⟩ : ∃ X : ByteArray, (⟨b.toArray⟩ : ByteArray) = X := ⟨_, rfl⟩
 have HBN := Lib.hid eB
 have HBD : Hid (B.data.toList = b) := Lib.hid (by rw [← eB])
 obtain ⟨U, eU⟩ : ∃ X : ByteArray, (⟨u.toArray⟩ : ByteArray) = X := ⟨_, rfl⟩
 have HUN := Lib.hid eU
 have HUD : Hid (U.data.toList = u) := Lib.hid (by rw [← eU])
 rw [eA, eB, eU]
 clear eA eB eU
 have HLIM := Lib.hid hlim
 have HFIT := Lib.hid hfit
 have HLEN := Lib.hid hlen
 have HNX := Lib.hid hn
 have HDX := Lib.hid hd
 have HMX := Lib.hid hm
 have HGX := Lib.hid hg
 have HAX := Lib.hid hxa
 have HBX := Lib.hid hxb
 have HUX := Lib.hid hxu
 have hb : Below w.heap.size w w := Below.refl _ _
 have H1 := Lib.hid (Fx.nil w)
 have H2 := Lib.hid (H1.out.base (hb))
 clear H1
 have H3 := Lib.hid (H2.out.krels (hk1))
 clear H2
 clear hb hk1 hlim hfit hlen hn hd hm hg hxa hxb hxu
 go_enter Tryz.func4, Tryz.ntmps4
 go_upto_region 1 with fail
 obtain ⟨blr1, hbl⟩ : ∃ b, w.heap.size = b := ⟨_, rfl⟩
 obtain ⟨W1, hW⟩ : ∃ W, w.alloc (.cells #[.string A, .string B, .slice lo1 l.length lc1, .int .u32 (n : Int), .string U] 26) = W := ⟨_, rfl⟩
 have hb : Below w.heap.size w W1 := by rw [← hW]; exact below_new _ _
 have hr : W1.heap[blr1]? = some (.cells #[.string A, .string B, .slice lo1 l.length lc1, .int .u32 (n : Int), .string U] 26 (0, 0)) := by rw [← hW, ← hbl]; exact new_row _ _ _
 rw [hW, hbl]
 clear hW hbl
 have H4 := Lib.hid (H3.out.below hb)
 clear hb H3
 have H5 := Lib.hid (H4.out.row (hr))
 clear H4
 clear hr
 go_wp2_with fail
 refine (first10 W1).mono ?_; rintro e w1 ⟨rfl, hb⟩
 have H6 := Lib.hid (H5.out.below hb)
 clear hb H5
 obtain ⟨xa0, xa1, xa2, xa3, xa4⟩ := row5 (H6.out.is.1)
 go_wp2_with fail
 refine (sc_room ((a, b, l, n), u) [.string A, .string B, .slice lo1 l.length lc1, .int .u32 (n : Int), .string U] _ w1 12000 HLIM.out HFIT.out HLEN.out HAX.out HBX.out HUX.out ⟨lo1, lc1, by rw [← HAN.out, ← HBN.out, ← HUN.out]; rfl, H6.out.is.2.1⟩ (by omega)).mono ?_; intro e w2 hpost
 obtain ⟨hb, r, rfl, HR⟩ := hpost
 clear xa0 xa1 xa2 xa3 xa4
 have H7 := Lib.hid (H6.out.below hb)
 clear hb H6
 by_cases hr0 : r < 0
 case pos =>
  have d1 : decide (r < 0) = true := decide_eq_true hr0
  clear hr0 HR
  go_wp2_with fail
  refine (first10 w2).mono ?_; rintro e w9 ⟨rfl, hb⟩
  have H8 := Lib.hid (H7.out.below hb)
  clear hb H7
  go_wp2_with fail
  go_ret
  exact ⟨rfl, H8.out.is.2.2.1⟩
 have d1 : decide (r < 0) = false := decide_eq_false hr0
 have HW : Hid (60 + a.length + b.length + u.length + ksw l ≤ 12000) := Lib.hid (by have h := HR.out; unfold RoomOk at h; dsimp only at h; omega)
 have hfit : sc_fit ((a, b, l, n), u) := ⟨HFIT.out, HNX.out, by have h := HW.out; dsimp only; omega⟩
 have HRF := Lib.hid hfit
 clear HR hr0 hfit
 obtain ⟨xa0, xa1, xa2, xa3, xa4⟩ := row5 (H7.out.is.1)
 go_wp2_with fail
 refine (sc_rmay ((a, b, l, n), u) [.string A, .string B, .slice lo1 l.length lc1, .int .u32 (n : Int), .string U] _ d w2 HFIT.out ⟨lo1, lc1, by rw [← HAN.out, ← HBN.out, ← HUN.out]; rfl, H7.out.is.2.1⟩ (by have h := HW.out; dsimp only; omega) (by have h := HW.out; dsimp only; omega) (by have h := HW.out; dsimp only; omega) (by have h := HW.out; dsimp only; omega) HDX.out).mono ?_; rintro e w3 ⟨rfl, hb⟩
 rw [HMX.out]
 clear xa0 xa1 xa2 xa3 xa4
 have H8 := Lib.hid (H7.out.below hb)
 clear hb H7
 obtain ⟨xa0, xa1, xa2, xa3, xa4⟩ := row5 (H8.out.is.1)
 go_wp2_with fail
 refine (sc_marshal ((a, b, l, n), u) [.string A, .string B, .slice lo1 l.length lc1, .int .u32 (n : Int), .string U] _ d w3 HRF.out ⟨lo1, lc1, by rw [← HAN.out, ← HBN.out, ← HUN.out]; rfl, H8.out.is.2.1⟩ HDX.out).mono ?_; rintro e w4 ⟨hb, hcase⟩
 clear xa0 xa1 xa2 xa3 xa4
 have H9 := Lib.hid (H8.out.below hb)
 clear hb H8
 rw [HMX.out, if_neg (by simp)] at hcase
 obtain ⟨v, rfl, hec⟩ := hcase
 obtain ⟨T', y, rfl⟩ := hec.iface
 have H10 := Lib.hid (H9.out.ec (hec))
 clear H9
 clear hec
 obtain ⟨xa0, xa1, xa2, xa3, xa4⟩ := row5 (H10.out.is.2.1)
 go_wp2_with fail
 refine (sc_mayc ((a, b, l, n), u) [.string A, .string B, .slice lo1 l.length lc1, .int .u32 (n : Int), .string U] _ d w4 HRF.out ⟨lo1, lc1, by rw [← HAN.out, ← HBN.out, ← HUN.out]; rfl, H10.out.is.2.2.1⟩ HDX.out).mono ?_; rintro e w5 ⟨rfl, hb⟩
 rw [HMX.out]
 clear xa0 xa1 xa2 xa3 xa4
 have H11 := Lib.hid (H10.out.below hb)
 clear hb H10
 go_wp2_with fail
 refine (first10 w5).mono ?_; rintro e w6 ⟨rfl, hb⟩
 have H12 := Lib.hid (H11.out.below hb)
 clear hb H11
 go_wp2_with fail
 obtain ⟨ws, he⟩ := H12.out.is.1
 refine (code_any ws _ _ w6 he (root_code _) (HGX.out.below (H12.out.is.2.2.2.1))).mono ?_; rintro e w7 ⟨rfl, hb⟩
 rw [show codeOf (codeV ((8 : Nat) : Int)) = 8 from rfl]
 have H13 := Lib.hid (H12.out.below hb)
 clear hb H12
 clear he
 go_wp2_with fail
 go_ret
 exact ⟨rfl, H13.out.is.2.2.2.1⟩
set_option maxRecDepth 1000000 in
set_option maxHeartbeats 16000000 in
theorem scwr_T (x : (List UInt8 × List UInt8 × List KV × Nat) × List UInt8) (cs : List Value) (P : Nat → Prop) (d : Int) (w : World) (hlim : kslim x.1.2.2.1) (hfit : ksfit x.1.2.2.1) (hlen : x.1.2.2.1.length ≤ 9223372036854775807) (hn : x.1.2.2.2 < 4294967296) (hxa : x.1.1.length ≤ 9223372036854775807) (hxb : x.1.2.1.length ≤ 9223372036854775807) (hxu : x.2.length ≤ 9223372036854775807) (hr : ScRel w P x cs) (hd : -9223372036854775808 ≤ d ∧ d ≤ 9223372036854775807) (hg : Glob w) (hm : sc_may d x = true) :
 Calls Tryz.prog 4 #[.agg cs.toArray, .int .i64 d] w fun e w' => e = .returned (.bool true) ∧ Below w.heap.size w w' := by
 obtain ⟨lo1, lc1, rfl, hk1⟩ := hr
 obtain ⟨⟨a, b, l, n⟩, u⟩ := x
 dsimp only [strV]
 obtain ⟨A, eA⟩ : ∃ X : ByteArray, (⟨a.toArray⟩ : ByteArray) = X := ⟨_, rfl⟩
 have HAN := Lib.hid eA
 have HAD : Hid (A.data.toList = a) := Lib.hid (by rw [← eA])
 obtain ⟨B, eB⟩ : ∃ X : ByteArray, (⟨b.toArray⟩ : ByteArray) = X := ⟨_, rfl⟩
 have HBN := Lib.hid eB
 have HBD : Hid (B.data.toList = b) := Lib.hid (by rw [← eB])
 obtain ⟨U, eU⟩ : ∃ X : ByteArray, (⟨u.toArray⟩ : ByteArray) = X := ⟨_, rfl⟩
 have HUN := Lib.hid eU
 have HUD : Hid (U.data.toList = u) := Lib.hid (by rw [← eU])
 rw [eA, eB, eU]
 clear eA eB eU
 have HLIM := Lib.hid hlim
 have HFIT := Lib.hid hfit
 have HLEN := Lib.hid hlen
 have HNX := Lib.hid hn
 have HDX := Lib.hid hd
 have HMX := Lib.hid hm
 have HGX := Lib.hid hg
 have HAX := Lib.hid hxa
 have HBX := Lib.hid hxb
 have HUX := Lib.hid hxu
 have hb : Below w.heap.size w w := Below.refl _ _
 have H1 := Lib.hid (Fx.nil w)
 have H2 := Lib.hid (H1.out.base (hb))
 clear H1
 have H3 := Lib.hid (H2.out.krels (hk1))
 clear H2
 clear hb hk1 hlim hfit hlen hn hd hm hg hxa hxb hxu
 go_enter Tryz.func4, Tryz.ntmps4
 go_upto_region 1 with fail
 obtain ⟨blr1, hbl⟩ : ∃ b, w.heap.size = b := ⟨_, rfl⟩
 obtain ⟨W1, hW⟩ : ∃ W, w.alloc (.cells #[.string A, .string B, .slice lo1 l.length lc1, .int .u32 (n : Int), .string U] 26) = W := ⟨_, rfl⟩
 have hb : Below w.heap.size w W1 := by rw [← hW]; exact below_new _ _
 have hr : W1.heap[blr1]? = some (.cells #[.string A, .string B, .slice lo1 l.length lc1, .int .u32 (n : Int), .string U] 26 (0, 0)) := by rw [← hW, ← hbl]; exact new_row _ _ _
 rw [hW, hbl]
 clear hW hbl
 have H4 := Lib.hid (H3.out.below hb)
 clear hb H3
 have H5 := Lib.hid (H4.out.row (hr))
 clear H4
 clear hr
 go_wp2_with fail
 refine (first10 W1).mono ?_; rintro e w1 ⟨rfl, hb⟩
 have H6 := Lib.hid (H5.out.below hb)
 clear hb H5
 obtain ⟨xa0, xa1, xa2, xa3, xa4⟩ := row5 (H6.out.is.1)
 go_wp2_with fail
 refine (sc_room ((a, b, l, n), u) [.string A, .string B, .slice lo1 l.length lc1, .int .u32 (n : Int), .string U] _ w1 12000 HLIM.out HFIT.out HLEN.out HAX.out HBX.out HUX.out ⟨lo1, lc1, by rw [← HAN.out, ← HBN.out, ← HUN.out]; rfl, H6.out.is.2.1⟩ (by omega)).mono ?_; intro e w2 hpost
 obtain ⟨hb, r, rfl, HR⟩ := hpost
 clear xa0 xa1 xa2 xa3 xa4
 have H7 := Lib.hid (H6.out.below hb)
 clear hb H6
 by_cases hr0 : r < 0
 case pos =>
  have d1 : decide (r < 0) = true := decide_eq_true hr0
  clear hr0 HR
  go_wp2_with fail
  refine (first10 w2).mono ?_; rintro e w9 ⟨rfl, hb⟩
  have H8 := Lib.hid (H7.out.below hb)
  clear hb H7
  go_wp2_with fail
  go_ret
  exact ⟨rfl, H8.out.is.2.2.1⟩
 have d1 : decide (r < 0) = false := decide_eq_false hr0
 have HW : Hid (60 + a.length + b.length + u.length + ksw l ≤ 12000) := Lib.hid (by have h := HR.out; unfold RoomOk at h; dsimp only at h; omega)
 have hfit : sc_fit ((a, b, l, n), u) := ⟨HFIT.out, HNX.out, by have h := HW.out; dsimp only; omega⟩
 have HRF := Lib.hid hfit
 clear HR hr0 hfit
 obtain ⟨xa0, xa1, xa2, xa3, xa4⟩ := row5 (H7.out.is.1)
 go_wp2_with fail
 refine (sc_rmay ((a, b, l, n), u) [.string A, .string B, .slice lo1 l.length lc1, .int .u32 (n : Int), .string U] _ d w2 HFIT.out ⟨lo1, lc1, by rw [← HAN.out, ← HBN.out, ← HUN.out]; rfl, H7.out.is.2.1⟩ (by have h := HW.out; dsimp only; omega) (by have h := HW.out; dsimp only; omega) (by have h := HW.out; dsimp only; omega) (by have h := HW.out; dsimp only; omega) HDX.out).mono ?_; rintro e w3 ⟨rfl, hb⟩
 rw [HMX.out]
 clear xa0 xa1 xa2 xa3 xa4
 have H8 := Lib.hid (H7.out.below hb)
 clear hb H7
 obtain ⟨xa0, xa1, xa2, xa3, xa4⟩ := row5 (H8.out.is.1)
 go_wp2_with fail
 refine (sc_marshal ((a, b, l, n), u) [.string A, .string B, .slice lo1 l.length lc1, .int .u32 (n : Int), .string U] _ d w3 HRF.out ⟨lo1, lc1, by rw [← HAN.out, ← HBN.out, ← HUN.out]; rfl, H8.out.is.2.1⟩ HDX.out).mono ?_; rintro e w4 ⟨hb, hcase⟩
 clear xa0 xa1 xa2 xa3 xa4
 have H9 := Lib.hid (H8.out.below hb)
 clear hb H8
 rw [HMX.out, if_pos rfl] at hcase
 subst hcase
 obtain ⟨SS, hSS⟩ : ∃ S : ByteArray, (⟨(sc_out ((a, b, l, n), u)).toArray⟩ : ByteArray) = S := ⟨_, rfl⟩
 have HSS := Lib.hid hSS
 have HSZ : Hid (SS.size = (sc_out ((a, b, l, n), u)).length) := Lib.hid (by rw [← hSS]; simp [ByteArray.size])
 rw [hSS]
 clear hSS
 obtain ⟨xa0, xa1, xa2, xa3, xa4⟩ := row5 (H9.out.is.1)
 go_wp2_with fail
 refine (sc_mayc ((a, b, l, n), u) [.string A, .string B, .slice lo1 l.length lc1, .int .u32 (n : Int), .string U] _ d w4 HRF.out ⟨lo1, lc1, by rw [← HAN.out, ← HBN.out, ← HUN.out]; rfl, H9.out.is.2.1⟩ HDX.out).mono ?_; rintro e w5 ⟨rfl, hb⟩
 rw [HMX.out]
 clear xa0 xa1 xa2 xa3 xa4
 have H10 := Lib.hid (H9.out.below hb)
 clear hb H9
 go_wp2_with fail
 refine (first10 w5).mono ?_; rintro e w6 ⟨rfl, hb⟩
 have H11 := Lib.hid (H10.out.below hb)
 clear hb H10
 obtain ⟨xa0, xa1, xa2, xa3, xa4⟩ := row5 (H11.out.is.1)
 go_wp2_with fail
 refine (sc_rout ((a, b, l, n), u) [.string A, .string B, .slice lo1 l.length lc1, .int .u32 (n : Int), .string U] _ d w6 HRF.out ⟨lo1, lc1, by rw [← HAN.out, ← HBN.out, ← HUN.out]; rfl, H11.out.is.2.1⟩ (by have h := HW.out; dsimp only; omega) (by have h := HW.out; dsimp only; omega) (by have h := HW.out; dsimp only; omega) (by have h := HW.out; dsimp only; omega) HMX.out).mono ?_; rintro e w7 ⟨rfl, hb⟩
 rw [HSS.out]
 clear xa0 xa1 xa2 xa3 xa4
 have H12 := Lib.hid (H11.out.below hb)
 clear hb H11
 obtain ⟨xa0, xa1, xa2, xa3, xa4⟩ := row5 (H12.out.is.1)
 go_wp2_with fail
 refine (sc_size ((a, b, l, n), u) [.string A, .string B, .slice lo1 l.length lc1, .int .u32 (n : Int), .string U] _ w7 HRF.out ⟨lo1, lc1, by rw [← HAN.out, ← HBN.out, ← HUN.out]; rfl, H12.out.is.2.1⟩ (sc_enough HRF.out (by have h := HW.out; dsimp only; omega) HMX.out)).mono ?_; rintro e w8 ⟨rfl, hb⟩
 rw [← HSZ.out]
 clear xa0 xa1 xa2 xa3 xa4
 have H13 := Lib.hid (H12.out.below hb)
 clear hb H12
 go_wp2_with fail
 go_ret
 exact ⟨rfl, H13.out.is.2.2.1⟩
set_option maxRecDepth 1000000 in
set_option maxHeartbeats 16000000 in
theorem scwr_any (x : (List UInt8 × List UInt8 × List KV × Nat) × List UInt8) (cs : List Value) (P : Nat → Prop) (d : Int) (w : World) (hlim : kslim x.1.2.2.1) (hfit : ksfit x.1.2.2.1) (hlen : x.1.2.2.1.length ≤ 9223372036854775807) (hn : x.1.2.2.2 < 4294967296) (hxa : x.1.1.length ≤ 9223372036854775807) (hxb : x.1.2.1.length ≤ 9223372036854775807) (hxu : x.2.length ≤ 9223372036854775807) (hr : ScRel w P x cs) (hd : -9223372036854775808 ≤ d ∧ d ≤ 9223372036854775807) (hg : Glob w) :
 Calls Tryz.prog 4 #[.agg cs.toArray, .int .i64 d] w fun e w' => e = .returned (.bool true) ∧ Below w.heap.size w w' := by
 cases hm : sc_may d x with
 | false => exact scwr_F x cs P d w hlim hfit hlen hn hxa hxb hxu hr hd hg hm
 | true => exact scwr_T x cs P d w hlim hfit hlen hn hxa hxb hxu hr hd hg hm
end Go.Proofs.YtbdbmkmebeemoaaGreatDoor

namespace Go.Proofs.YtbdbmkmebeemoaaGreatDoor.scopeWrites
open Go.ChangeShapes Go.WideShapes Go.ChangeAt Go.RowKit
open Go.ChangeMaps (open_string shut_string)

theorem reads (os : Os) {H : Type} (enc : TypeId × Value → H) : ∃ places, DataW.whole enc Tryz.prog ((laidWorld os).forCall (fun _ _ => 0) ⟨#[], #[.agg #[.string .empty, .string .empty, .slice none 0 0, .int .u32 0, .string .empty], .int .i64 0], []⟩).memory Tryz.f4.params.toList Rows.scopeWritesSpec.vars false (#[.agg #[.string .empty, .string .empty, .slice none 0 0, .int .u32 0, .string .empty], .int .i64 0] : Array Value).toList 8 = some ([.agg [.lit (.string []), .lit (.string []), .nil, .lit (.int .u32 0), .lit (.string [])], .lit (.int .i64 0)], [], places) :=
  ⟨[], by kernel_rfl⟩
set_option maxRecDepth 100000 in
theorem lifted (os : Os) (started : os.Started) (H : Type) (enc : TypeId × Value → H) (F : Stop.Interp) :
    ReturnsInHanded {} Tryz.checked os 4 .any ((OpenSpec.ofChange Rows.scopeWritesSpec).preRow enc Tryz.prog Tryz.f4 Rows.scopeWritesRow.domain false Rows.scopeWritesRow.laid) (((OpenSpec.ofChange Rows.scopeWritesSpec).at F).post enc Tryz.prog Tryz.f4 false true false false) := by
  obtain ⟨places, hx⟩ := reads os enc
  refine returnsInHanded_of_row (C := Tryz.checked) (s := OpenSpec.ofChange Rows.scopeWritesSpec) Tryz.own started (by kernel_rfl) Tryz.func4
    (witness_row_at (enc := enc) (C := Tryz.checked) false (laidWorld os) #[.agg #[.string .empty, .string .empty, .slice none 0 0, .int .u32 0, .string .empty], .int .i64 0] rfl (by kernel_rfl) (by kernel_rfl) (by kernel_rfl)
      (OpenSpec.preRow_of_cond 8 hx (by kernel_rfl) (fun k hk => by cases hk) (by kernel_rfl) (laidWorld_met os _))) ?_
  intro W base args ds gs before hval0 hW _ _ _ hL _ _
  have hg : Glob W := glob_of_laid hL
  clear hL
  have hval : ∀ (j : Nat) t v, Tryz.f4.params[j]? = some t → args[j]? = some v → Value.okWide Tryz.prog W .any base t v := hval0
  have hW' := hW
  obtain ⟨p, q, hA0, hV, rfl, hfz, hnd⟩ := hW
  have hA : DataW.TrodAll enc Tryz.prog W 0 (fun _ => true) true Tryz.f4.params.toList args.toList ds p := hA0
  rw [Tryz.params4] at hA hval
  obtain ⟨v0, vs0, d0, ds0, p0, q0, hargs, rfl, rfl, h0, r0⟩ := trodAll_cons hA
  obtain ⟨v1, vs1, d1, ds1, p1, q1, rfl, rfl, rfl, h1, r1⟩ := trodAll_cons r0
  obtain ⟨rfl, rfl, rfl⟩ := trodAll_nil r1
  obtain rfl : args = #[v0, v1] := by cases args; simp_all
  have hpl : ∀ x ∈ p0 ++ (p1 ++ []), x.block < W.heap.size := fun x hx => by simpa using hW'.lt x (List.mem_append_left _ hx)
  obtain ⟨x0, c0, rfl, hx0, hl0, hf0, hn0, hk0, ha0, hb0, hu0⟩ := open_Sco (hval 0 26 v0 rfl rfl) h0
  obtain ⟨a1, rfl, rfl, rfl, w1⟩ := open_int Tryz.underlying3 (hval 1 3 v1 rfl rfl) h1
  have b1 : -9223372036854775808 ≤ a1 ∧ a1 ≤ 9223372036854775807 := by simp [Lit.wf, IntKind.min, IntKind.max, IntKind.signed, IntKind.bits] at w1; omega
  refine Calls.mono ?_ (fun e W' (h : e = .returned (.bool true) ∧ Below W.heap.size W W') => ⟨_, h.1, law_post (by kernel_rfl) (by kernel_rfl) rfl Tryz.underlying4 rfl hW' (fun ds hd => by match ds, hd with | [_, _], _ => rfl) h.2⟩)
  exact scwr_any x0 c0 _ a1 W hl0 hf0 hn0 hk0 ha0 hb0 hu0 hx0 b1 hg

theorem over : Rows.ScopeWritesSaid :=
  OpenClaim.holds_of_cond 4 Tryz.f4 rfl rfl rfl rfl rfl rfl rfl ⟨rfl, rfl, rfl, rfl, rfl⟩ rfl rfl rfl rfl rfl (by kernel_rfl) Tryz.func4 (by kernel_rfl)
    (of_decide_eq_true (by kernel_rfl)) (by unfold Func.isWrapper; first | (rw [if_pos (by decide +kernel)]; kernel_rfl) | (rw [if_neg (by decide +kernel)]; exact ⟨rfl, rfl⟩))
    (fun os started H enc _ F => by rw [OpenClaim.pre_eq_preRow]; exact lifted os started H enc F)
theorem looks (f : FuncId) (fn : Func) (hf : Tryz.pinned.checked.prog.funcNamed "hygrometer/hyglaw10.ScopeWrites" = some f) (hfn : Tryz.pinned.checked.prog.funcs[f]? = some fn) :
    true = Tryz.pinned.checked.prog.looks [] ∧ ∀ (j : Nat) t, fn.params[j]? = some t → Tryz.pinned.checked.prog.wantsStandIn t = false := by
  obtain rfl : f = 4 := Option.some.inj ((show Tryz.prog.funcNamed "hygrometer/hyglaw10.ScopeWrites" = some 4 by kernel_rfl).symm.trans hf) |>.symm
  obtain rfl : fn = Tryz.f4 := (Option.some.inj (Tryz.func4.symm.trans hfn)).symm
  refine ⟨by kernel_rfl, fun j t ht => ?_⟩
  have hall : Tryz.f4.params.toList.all (fun t => Tryz.prog.wantsStandIn t == false) = true := by kernel_rfl
  have := List.all_eq_true.1 hall t (by simpa using Array.mem_of_getElem? ht)
  exact eq_of_beq this
theorem proved : Rows.ScopeWritesCardSaid :=
  Claim7.holds_tied_plain_at .later [] _ _ _ _ over (fun _ h => by cases h) (by kernel_rfl) (fun _ h => by cases h) scopeWrites_row_tie rfl ⟨rfl, rfl⟩ (by kernel_rfl) rfl looks (by kernel_rfl)
end Go.Proofs.YtbdbmkmebeemoaaGreatDoor.scopeWrites

