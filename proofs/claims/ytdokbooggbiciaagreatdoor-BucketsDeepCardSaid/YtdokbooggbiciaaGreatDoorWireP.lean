/-
  wire.Fixeds, wire.Varints: packed numbers.
-/
import Derived.Test.YtdokbooggbiciaaGreatDoorWireR4
namespace Go.Proofs.YtdokbooggbiciaaGreatDoor
open Go.RowKit

theorem Tryz.elU64 : Elem Tryz.prog 23 44 (.int .u64 0) 1 8 := ⟨Tryz.underlying23, by kernel_rfl, by decide⟩
def nats64 (l : List Nat) : List Value := l.map fun n : Nat => .int .u64 (n : Int)
/-- the numbers of eight bytes each -/
def fixs (l : List UInt8) (k : Nat) : List Nat := (List.range k).map fun i => wlit ((l.drop (8 * i)).take 8)
theorem fixs_succ (l : List UInt8) (k : Nat) : fixs l (k + 1) = fixs l k ++ [wlit ((l.drop (8 * k)).take 8)] := by simp [fixs, List.range_succ]
theorem fixs_len (l : List UInt8) (k : Nat) : (fixs l k).length = k := by simp [fixs]
def FixedsPost (s : ByteArray) (w : World) (e : Ending) (w' : World) : Prop :=
  if s.size % 8 = 0 then ∃ u, e = .returned (.tuple #[u, .nilIface]) ∧ w'.ownsRow w.heap.size 44 1 u (s.size / 8) (nats64 (fixs s.data.toList (s.size / 8))) ∧ Below w.heap.size w w'
  else ∃ v, e = .returned (.tuple #[.slice none 0 0, v]) ∧ ErrNew w ((s.size - s.size % 8 : Nat) : Int) 1 v w'
theorem fixeds_no {s : ByteArray} {w w' : World} {v : Value} {p : Int} (h : ¬ s.size % 8 = 0) (hp : p = ((s.size - s.size % 8 : Nat) : Int)) (hE : ErrNew w p 1 v w') : FixedsPost s w (.returned (.tuple #[.slice none 0 0, v])) w' := by
  subst hp; unfold FixedsPost; rw [if_neg h]; exact ⟨v, rfl, hE⟩
theorem fixeds_ok {s : ByteArray} {w w' : World} {u : Value} {K : Nat} (h : s.size = 8 * K) (ho : w'.ownsRow w.heap.size 44 1 u K (nats64 (fixs s.data.toList K))) (hB : Below w.heap.size w w') : FixedsPost s w (.returned (.tuple #[u, .nilIface])) w' := by
  have e : s.size / 8 = K := by omega
  unfold FixedsPost; rw [if_pos (by omega), e]; exact ⟨u, rfl, ho, hB⟩
/-- the varints that bytes are -/
def wvs : Nat → List UInt8 → Except Nat (List Nat)
  | 0, _ => .ok []
  | f + 1, l => if l = [] then .ok [] else match wv l with
    | .error c => .error c
    | .ok (n, j) => match wvs f (l.drop j) with
      | .error c => .error c
      | .ok ns => .ok (n :: ns)
def wvars (l : List UInt8) : Except Nat (List Nat) := wvs l.length l
theorem wvs_fuel : ∀ (f g : Nat) (l : List UInt8), l.length ≤ f → l.length ≤ g → wvs f l = wvs g l
  | 0, 0, _, _, _ => rfl
  | 0, g + 1, l, hf, _ => by
    have : l = [] := List.length_eq_zero_iff.1 (by omega)
    rw [wvs, wvs, if_pos this]
  | f + 1, 0, l, _, hg => by
    have : l = [] := List.length_eq_zero_iff.1 (by omega)
    rw [wvs, wvs, if_pos this]
  | f + 1, g + 1, l, hf, hg => by
    rw [wvs, wvs]
    split
    · rfl
    · cases h : wv l with
      | error c => rfl
      | ok x =>
        obtain ⟨n, j⟩ := x
        have := wv_bounds h
        dsimp only
        rw [wvs_fuel f g _ (by simp; omega) (by simp; omega)]
theorem wvars_nil : wvars [] = .ok [] := rfl
theorem wvars_no {l : List UInt8} {c : Nat} (h0 : l ≠ []) (h : wv l = .error c) : wvars l = .error c := by
  unfold wvars
  cases hl : l.length with
  | zero => exact absurd (List.length_eq_zero_iff.1 hl) h0
  | succ f => rw [wvs, if_neg h0, h]
theorem wvars_cons {l : List UInt8} {n j : Nat} (h : wv l = .ok (n, j)) : wvars l = match wvars (l.drop j) with
    | .error c => .error c
    | .ok ns => .ok (n :: ns) := by
  have hb := wv_bounds h
  conv => lhs; unfold wvars
  cases hl : l.length with
  | zero => omega
  | succ f =>
    rw [wvs, if_neg (by intro e; subst e; simp at hl), h]
    dsimp only
    have e : wvs f (l.drop j) = wvars (l.drop j) := wvs_fuel _ _ _ (by simp; omega) (by simp)
    rw [e]
def VarsPost (s : ByteArray) (w : World) (e : Ending) (w' : World) : Prop := match wvars s.data.toList with
  | .error c => ∃ v, e = .returned (.tuple #[.slice none 0 0, v]) ∧ ∃ q : Nat, q ≤ s.size ∧ ErrNew w (q : Int) (c : Int) v w'
  | .ok ns => ∃ u, e = .returned (.tuple #[u, .nilIface]) ∧ w'.ownsRow w.heap.size 44 1 u ns.length (nats64 ns) ∧ ns.length ≤ s.size ∧ Below w.heap.size w w'
theorem vars_no {s : ByteArray} {c : Nat} {w w' : World} {v : Value} (h : wvars s.data.toList = .error c) (q : Nat) (hq : q ≤ s.size) (hE : ErrNew w (q : Int) (c : Int) v w') : VarsPost s w (.returned (.tuple #[.slice none 0 0, v])) w' := by
  unfold VarsPost; rw [h]; exact ⟨v, rfl, q, hq, hE⟩
theorem vars_ok {s : ByteArray} {ns : List Nat} {w w' : World} {u : Value} (h : wvars s.data.toList = .ok ns) (ho : w'.ownsRow w.heap.size 44 1 u ns.length (nats64 ns)) (hl : ns.length ≤ s.size) (hB : Below w.heap.size w w') : VarsPost s w (.returned (.tuple #[u, .nilIface])) w' := by
  unfold VarsPost; rw [h]; exact ⟨u, rfl, ho, hl, hB⟩
def VsRel (l : List UInt8) (q : Nat) (acc : List Nat) : Prop := q ≤ l.length ∧ acc.length ≤ q ∧ wvars l = match wvars (l.drop q) with
  | .error c => .error c
  | .ok ns => .ok (acc ++ ns)
theorem vs_start (l : List UInt8) : VsRel l 0 [] := by
  refine ⟨by omega, by simp, ?_⟩
  rw [List.drop_zero]
  cases wvars l <;> rfl
theorem vs_err {l : List UInt8} {q c : Nat} {acc : List Nat} (h : VsRel l q acc) (hq : q < l.length) (hn : wv (l.drop q) = .error c) : wvars l = .error c := by
  rw [h.2.2, wvars_no (by intro e; have := congrArg List.length e; simp at this; omega) hn]
theorem vs_next {l : List UInt8} {q j n : Nat} {acc : List Nat} (h : VsRel l q acc) (hn : wv (l.drop q) = .ok (n, j)) : VsRel l (q + j) (acc ++ [n]) := by
  have hb := wv_bounds hn
  simp at hb
  obtain ⟨h1, h2, h3⟩ := h
  refine ⟨by omega, by simp; omega, ?_⟩
  rw [h3, wvars_cons hn, List.drop_drop]
  cases wvars (l.drop (q + j)) with
  | error c => rfl
  | ok rs => simp
theorem vs_end {l : List UInt8} {acc : List Nat} {q : Nat} (h : VsRel l q acc) (hq : q = l.length) : wvars l = .ok acc := by
  subst hq
  rw [h.2.2, List.drop_length, wvars_nil]
  simp
set_option maxRecDepth 100000 in
set_option maxHeartbeats 4000000 in
theorem varints_any (s : ByteArray) (w : World) (hs : s.size ≤ 1000000) :
    Calls Tryz.prog 54 #[.string s] w (VarsPost s w) := by
  have HL := Lib.hid (show s.data.toList.length = s.size by simp)
  have HS := Lib.hid hs
  go_enter Tryz.func54, Tryz.ntmps54
  go_wp2_with fail
  go_loopg [4, 5] s.size (fun k v a wr => ∃ (q : Nat) (acc : List Nat), q + k = s.size ∧ a = .int .i64 (q : Int) ∧ VsRel s.data.toList q acc ∧ wr.ownsRow w.heap.size 44 1 v acc.length (nats64 acc) ∧ Below w.heap.size w wr)
  case atStart => exact ⟨0, [], by omega, rfl, vs_start _, World.ownsRow_nil _ _ _ _, Below.refl _ _⟩
  case round =>
    obtain ⟨q, acc, hqk, rfl, hal, hown, hb⟩ := hrel
    have HA := Lib.hid hal
    have HB := Lib.hid hb
    have HQ := Lib.hid hqk
    have hqs : q ≤ s.size := by omega
    have hsz : s.size ≤ 1000000 := HS.out
    have hacc : acc.length ≤ q := hal.2.1
    have hbs : w.heap.size ≤ wr.heap.size := hb.size
    clear hal hb hqk
    by_cases hlt : q < s.size
    · cases hn : wv (s.data.toList.drop q) with
      | error c =>
        have HV := Lib.hid (vget_no (by have := HL.out; omega) hn)
        have HF := Lib.hid (vs_err HA.out (by have := HL.out; omega) hn)
        clear hn hown
        go_wp2_with fail
        refine (get_err s q _ (by unfold maxLen; omega) HV.out).mono ?_; rintro e w' ⟨rfl, rfl⟩
        go_wp2_with fail
        go_ret2
        exact vars_no HF.out q hqs (errNew_at HB.out)
      | ok x =>
        obtain ⟨n, j⟩ := x
        have HV := Lib.hid (vget_ok (by have := HL.out; omega) hn)
        have HG := Lib.hid (vs_next HA.out hn)
        have HJ := Lib.hid (wv_bounds hn)
        have hqj : q + j ≤ s.size := by have := HJ.out.2.1; simp at this; have := HL.out; omega
        have hj1 : 1 ≤ j := HJ.out.1
        clear hn
        go_wp2_with (first
          | (go_at_call 83; refine (get_ok s q _ (by unfold maxLen; omega) HV.out).mono ?_; rintro e w' ⟨rfl, rfl⟩)
          | (at_builtin; refine wpList_app1 rfl _ _ 23 rfl Tryz.elU64 (by decide) hown rfl rfl rfl (by simp [Value.oneCell']) (by unfold maxLen; omega) (by omega) hbs ?_; intro v' w2 hown' hgrow))
        have HO2 : Hid (w2.ownsRow w.heap.size 44 1 v' (acc ++ [n]).length (nats64 (acc ++ [n]))) := Lib.hid (by simpa [nats64] using hown')
        have HB2 : Hid (Below w.heap.size w w2) := Lib.hid (HB.out.grown hgrow hbs (fun k hk => (hown.lt _ hk).1))
        have hq := HQ.out
        go_roundg (s.size - (q + j))
        case measure => omega
        case rel => exact ⟨q + j, acc ++ [n], by omega, by simp, HG.out, HO2.out, HB2.out⟩
    · have HF := Lib.hid (vs_end HA.out (by have := HL.out; have := HQ.out; omega))
      have HO := Lib.hid hown
      clear hown
      go_wp2_with fail
      go_ret2
      exact vars_ok HF.out HO.out (by omega) HB.out
end Go.Proofs.YtdokbooggbiciaaGreatDoor
