/-
  wire.All: all records.
-/
import Derived.Test.YteknippgiljgeaaGreatDoorWireR4
namespace Go.Proofs.YteknippgiljgeaaGreatDoor
open Go.RowKit

def recCells (r : Rec) : List Value := [.int .i64 (r.num : Int), .int .i64 (r.ty : Int), .int .u64 (r.n : Int), .string ⟨r.s.toArray⟩, .string ⟨r.raw.toArray⟩]
theorem Tryz.elRec : Elem Tryz.prog 111 67 (.agg #[.int .i64 0, .int .i64 0, .int .u64 0, .string ⟨#[]⟩, .string ⟨#[]⟩]) 5 56 := ⟨Tryz.underlying111, by kernel_rfl, by decide⟩
def AllPost (s : ByteArray) (d : Int) (w : World) (e : Ending) (w' : World) : Prop := match wall s.data.toList d with
  | .error c => ∃ v, e = .returned (.tuple #[.slice none 0 0, v]) ∧ ∃ q : Nat, q ≤ s.size ∧ ErrNew w (q : Int) (c : Int) v w'
  | .ok rs => ∃ u, e = .returned (.tuple #[u, .nilIface]) ∧ w'.ownsRow w.heap.size 67 5 u rs.length (rs.flatMap recCells) ∧ rs.length ≤ s.size ∧ Below w.heap.size w w'
theorem all_no {s : ByteArray} {c : Nat} {d : Int} {w w' : World} {v : Value} (h : wall s.data.toList d = .error c) (q : Nat) (hq : q ≤ s.size) (hE : ErrNew w (q : Int) (c : Int) v w') : AllPost s d w (.returned (.tuple #[.slice none 0 0, v])) w' := by
  unfold AllPost; rw [h]; exact ⟨v, rfl, q, hq, hE⟩
theorem all_ok {s : ByteArray} {rs : List Rec} {d : Int} {w w' : World} {u : Value} (h : wall s.data.toList d = .ok rs) (ho : w'.ownsRow w.heap.size 67 5 u rs.length (rs.flatMap recCells)) (hl : rs.length ≤ s.size) (hB : Below w.heap.size w w') : AllPost s d w (.returned (.tuple #[u, .nilIface])) w' := by
  unfold AllPost; rw [h]; exact ⟨u, rfl, ho, hl, hB⟩
/-- how far all has been read -/
def AlRel (l : List UInt8) (d : Int) (q : Nat) (acc : List Rec) : Prop := q ≤ l.length ∧ acc.length ≤ q ∧ wall l d = match wall (l.drop q) d with
  | .error c => .error c
  | .ok rs => .ok (acc ++ rs)
theorem al_start (l : List UInt8) (d : Int) : AlRel l d 0 [] := by
  refine ⟨by omega, by simp, ?_⟩
  rw [List.drop_zero]
  cases wall l d <;> rfl
theorem al_err {l : List UInt8} {d : Int} {q c : Nat} {acc : List Rec} (h : AlRel l d q acc) (hq : q < l.length) (hn : wnx (l.drop q) d = .error c) : wall l d = .error c := by
  rw [h.2.2, wall_no (by intro e; have := congrArg List.length e; simp at this; omega) hn]
theorem al_next {l : List UInt8} {d : Int} {q j : Nat} {acc : List Rec} {r : Rec} (h : AlRel l d q acc) (hn : wnx (l.drop q) d = .ok (r, j)) : AlRel l d (q + j) (acc ++ [r]) := by
  have hb := wnx_bounds hn
  simp at hb
  obtain ⟨h1, h2, h3⟩ := h
  refine ⟨by omega, by simp; omega, ?_⟩
  rw [h3, wall_cons hn, List.drop_drop]
  cases wall (l.drop (q + j)) d with
  | error c => rfl
  | ok rs => simp
theorem al_end {l : List UInt8} {d : Int} {acc : List Rec} {q : Nat} (h : AlRel l d q acc) (hq : q = l.length) : wall l d = .ok acc := by
  subst hq
  rw [h.2.2, List.drop_length, wall_nil]
  simp
theorem wnx_len {l : List UInt8} {d : Int} {q j : Nat} {r : Rec} (hn : wnx (l.drop q) d = .ok (r, j)) : 2 ≤ j ∧ q + j ≤ l.length := by
  have hb := wnx_bounds hn
  simp at hb
  omega
set_option maxRecDepth 100000 in
set_option maxHeartbeats 4000000 in
theorem all_any (s : ByteArray) (d : Int) (w : World) (hs : s.size ≤ 1000000000) :
    Calls Tryz.prog 78 #[.string s, .int .i64 d] w (AllPost s d w) := by
  have HL := Lib.hid (show s.data.toList.length = s.size by simp)
  have HS := Lib.hid hs
  go_enter Tryz.func78, Tryz.ntmps78
  go_wp2_with fail
  go_loopg [6, 7] s.size (fun k v a wr => ∃ (q : Nat) (acc : List Rec), q + k = s.size ∧ a = .int .i64 (q : Int) ∧ AlRel s.data.toList d q acc ∧ wr.ownsRow w.heap.size 67 5 v acc.length (acc.flatMap recCells) ∧ Below w.heap.size w wr)
  case atStart => exact ⟨0, [], by omega, rfl, al_start _ _, World.ownsRow_nil _ _ _ _, Below.refl _ _⟩
  case round =>
    obtain ⟨q, acc, hqk, rfl, hal, hown, hb⟩ := hrel
    have HA := Lib.hid hal
    have HB := Lib.hid hb
    have HQ := Lib.hid hqk
    have hqs : q ≤ s.size := by omega
    have hsz : s.size ≤ 1000000000 := HS.out
    have hacc : acc.length ≤ q := hal.2.1
    have hwb : w.heap.size ≤ wr.heap.size := hb.size
    clear hal hb hqk
    by_cases hlt : q < s.size
    · cases hn : wnx (s.data.toList.drop q) d with
      | error c =>
        have HN := Lib.hid hn
        have HF := Lib.hid (al_err HA.out (by have := HL.out; omega) hn)
        clear hn hown
        go_wp2_with fail
        refine (next_any s q d _ hqs hsz).mono ?_; intro e w1 hpost
        unfold NextPost at hpost
        rw [HN.out] at hpost
        obtain ⟨v, rfl, q', hq', hE⟩ := hpost
        obtain ⟨T, y, rfl⟩ := hE.iface
        have HE := Lib.hid hE
        clear hE
        unfold rec0
        go_wp2_with fail
        go_ret2
        exact all_no HF.out q' hq' ((HE.out.after HB.out).stay (below_new _ _))
      | ok x =>
        obtain ⟨r, j⟩ := x
        have HN := Lib.hid hn
        have HG := Lib.hid (al_next HA.out hn)
        have HJ := Lib.hid (wnx_len hn)
        have hqj : q + j ≤ s.size := by have := HJ.out.2; have := HL.out; omega
        have hj2 : 2 ≤ j := HJ.out.1
        clear hn
        go_wp2_with fail
        refine (next_any s q d _ hqs hsz).mono ?_; intro e w1 hpost
        unfold NextPost at hpost
        rw [HN.out] at hpost
        obtain ⟨rfl, hb1⟩ := hpost
        have HB1 := Lib.hid hb1
        have hown1 := (own_below hown hb1).alloc (.cells #[.int .i64 (r.num : Int), .int .i64 (r.ty : Int), .int .u64 (r.n : Int), .string ⟨r.s.toArray⟩, .string ⟨r.raw.toArray⟩] 67)
        have hs1 := hb1.size
        clear hb1 hown
        unfold recV
        go_wp2_with (at_builtin; refine wpList_app1 (c := 1) (cs := recCells r) rfl _ _ 111 rfl Tryz.elRec (by decide) hown1 rfl (by show Value.slice (some ⟨w1.heap.size + 1, 0, none⟩) 1 1 = _; simp) rfl (by simp [recCells, Value.oneCell']) (by unfold maxLen; omega) (by omega) (by simp; omega) ?_; intro v' w2 hown' hgrow)
        have HO2 : Hid (w2.ownsRow w.heap.size 67 5 v' (acc ++ [r]).length ((acc ++ [r]).flatMap recCells)) := Lib.hid (by
          have e1 : (acc ++ [r]).length = acc.length + 1 := by simp
          have e2 : (acc ++ [r]).flatMap recCells = acc.flatMap recCells ++ recCells r := by simp
          rw [e1, e2]; exact hown')
        have HB2 : Hid (Below w.heap.size w w2) := Lib.hid (((below_step HB.out HB1.out).alloc (by omega) _).grown hgrow (by simp; omega) (fun k hk => (hown1.lt _ hk).1))
        have hq := HQ.out
        go_roundg (s.size - (q + j))
        case measure => omega
        case rel => exact ⟨q + j, acc ++ [r], by omega, by simp, HG.out, HO2.out, HB2.out⟩
    · have HF := Lib.hid (al_end HA.out (by have := HL.out; have := HQ.out; omega))
      have HO := Lib.hid hown
      clear hown
      go_wp2_with fail
      go_ret2
      exact all_ok HF.out HO.out (by omega) HB.out
end Go.Proofs.YteknippgiljgeaaGreatDoor
