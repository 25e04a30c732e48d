/-
  The reference's Next and group, every place; All.
-/
import Derived.Test.YtbhppchdoalahaaDoorWireRG
namespace Go.Proofs.YtbhppchdoalahaaDoor
open Go.RowKit

def RNx (s : ByteArray) (p : Nat) : Prop := ∀ (d : Int) (w : World), d ≤ 9223372036854775807 → Calls Tryd.prog 21 #[.string s, .int .i64 (p : Int), .int .i64 d] w (RNextPost s p d w)
def RGx (s : ByteArray) (p : Nat) : Prop := ∀ (num : Nat) (d : Int) (w : World), 1 ≤ num → num ≤ 536870911 → d ≤ 9223372036854775807 →
  Calls Tryd.prog 65 #[.string s, .int .i64 (p : Int), .int .i64 (num : Int), .int .i64 d] w (RGroupPost s p num d w)
theorem rnext_of (s : ByteArray) (p : Nat) (hs : s.size ≤ 1000000000) (hp : p ≤ s.size) (hG : ∀ q, p < q → q ≤ s.size → RGx s q) : RNx s p := by
  intro d w hd
  cases hv : wv (s.data.toList.drop p) with
  | error c => exact rnext_wv s p c d w hp hs hv
  | ok x =>
    obtain ⟨t, j⟩ := x
    have hvb := wv_bounds hv
    have hq : p + j ≤ s.size := by have := hvb.2.1; simp at this; omega
    have hT : TagIs s p t j (t / 8) (t % 8) (p + j) := ⟨hv, rfl, rfl, rfl, hq, hvb.2.2.2⟩
    by_cases h1 : t / 8 < 1 ∨ 536870911 < t / 8
    · exact rnext_num s p t j _ _ _ d w hp hs hT h1
    · have h1' : 1 ≤ t / 8 := by omega
      have h2 : t / 8 ≤ 536870911 := by omega
      have hL : (s.data.toList.drop (p + j)).length = s.size - (p + j) := by simp
      rcases (by omega : t % 8 = 0 ∨ t % 8 = 1 ∨ t % 8 = 2 ∨ t % 8 = 3 ∨ t % 8 = 5 ∨ (t % 8 = 4 ∨ t % 8 = 6 ∨ t % 8 = 7)) with h | h | h | h | h | h
      · cases hv2 : wv (s.data.toList.drop (p + j)) with
        | error c => exact rnext_0no s p t j _ _ _ d w hp hs hT h1' h2 h c hv2
        | ok y => exact rnext_0 s p t j _ _ _ d w hp hs hT h1' h2 h y.1 y.2 hv2
      · by_cases hl : s.size - (p + j) < 8
        · exact rnext_1no s p t j _ _ _ d w hp hs hT h1' h2 h hl
        · exact rnext_1 s p t j _ _ _ d w hp hs hT h1' h2 h (by omega)
      · cases hv2 : wv (s.data.toList.drop (p + j)) with
        | error c => exact rnext_2no s p t j _ _ _ d w hp hs hT h1' h2 h c hv2
        | ok y =>
          have hyb := (wv_bounds (n := y.1) (j := y.2) hv2).2.1
          by_cases hl : s.size - (p + j) - y.2 < y.1
          · exact rnext_2long s p t j _ _ _ d w hp hs hT h1' h2 h y.1 y.2 hv2 hl
          · exact rnext_2 s p t j _ _ _ d w hp hs hT h1' h2 h y.1 y.2 hv2 (by omega)
      · have hg := fun w => hG (p + j) (by omega) hq (t / 8) d w h1' h2 hd
        cases hw : wgroup (s.data.toList.drop (p + j)) [t / 8] d with
        | error c => exact rnext_3no s p t j _ _ _ d w hp hs hT h1' h2 h hg c hw
        | ok k => exact rnext_3 s p t j _ _ _ d w hp hs hT h1' h2 h hg k hw
      · by_cases hl : s.size - (p + j) < 4
        · exact rnext_5no s p t j _ _ _ d w hp hs hT h1' h2 h hl
        · exact rnext_5 s p t j _ _ _ d w hp hs hT h1' h2 h (by omega)
      · exact rnext_kind s p t j _ _ _ d w hp hs hT h1' h2 h
theorem rall_of (s : ByteArray) (hs : s.size ≤ 1000000000) : ∀ (N p : Nat), s.size - p ≤ N → p ≤ s.size → RNx s p ∧ RGx s p
  | N, p, hN, hp => by
    have hG : ∀ q, p < q → q ≤ s.size → RNx s q ∧ RGx s q := fun q h1 h2 => by
      match N, hN with
      | 0, hN => omega
      | N + 1, hN => exact rall_of s hs N q (by omega) h2
    have hX : RNx s p := rnext_of s p hs hp fun q h1 h2 => (hG q h1 h2).2
    refine ⟨hX, fun num d w h1 h2 hd => rgroup_of s p num d w hp hs h1 h2 hd fun q h3 h4 w' => ?_⟩
    by_cases hqp : q = p
    · subst hqp; exact hX (d - 1) w' (by omega)
    · exact (hG q (by omega) h4).1 (d - 1) w' (by omega)
theorem rnext_any (s : ByteArray) (p : Nat) (d : Int) (w : World) (hp : p ≤ s.size) (hs : s.size ≤ 1000000000) (hd : d ≤ 9223372036854775807) :
    Calls Tryd.prog 21 #[.string s, .int .i64 (p : Int), .int .i64 d] w (RNextPost s p d w) := (rall_of s hs _ p (Nat.le_refl _) hp).1 d w hd
theorem rnext_outside (s : ByteArray) (p : Int) (d : Int) (w : World) (hs : s.size ≤ 1000000000) (hp : p < 0 ∨ (s.size : Int) < p) :
    Calls Tryd.prog 21 #[.string s, .int .i64 p, .int .i64 d] w fun e w' => e = .returned (.tuple #[rec0, .int .i64 0, .bool false]) ∧ Below w.heap.size w w' := by
  have HG0 := Lib.hid (get_out (l := s.data.toList) (p := p) (by simpa using hp))
  clear hp
  go_enter Tryd.func21, Tryd.ntmps21
  go_wp2_with fail
  refine (rget_err s p _ (by omega) HG0.out).mono ?_; rintro e w' ⟨rfl, rfl⟩
  go_wp2_with fail
  refine body_cell3 rfl rfl (load_rrec (heap_alloc_new _ _) rfl) rfl ?_
  exact ⟨rfl, below_new _ _⟩
theorem Tryd.elRRec : Elem Tryd.prog 47 39 (.agg #[.int .i64 0, .int .i64 0, .int .u64 0, .string ⟨#[]⟩, .string ⟨#[]⟩]) 5 56 := ⟨Tryd.underlying47, by kernel_rfl, by decide⟩
def RAllPost (s : ByteArray) (d : Int) (w : World) (e : Ending) (w' : World) : Prop := match wall s.data.toList d with
  | .error _ => e = .returned (.tuple #[.slice none 0 0, .bool false]) ∧ Below w.heap.size w w'
  | .ok rs => ∃ u, e = .returned (.tuple #[u, .bool true]) ∧ w'.ownsRow w.heap.size 39 5 u rs.length (rs.flatMap recCells) ∧ Below w.heap.size w w'
theorem rall_no {s : ByteArray} {c : Nat} {d : Int} {w w' : World} (h : wall s.data.toList d = .error c) (hB : Below w.heap.size w w') : RAllPost s d w (.returned (.tuple #[.slice none 0 0, .bool false])) w' := by
  unfold RAllPost; rw [h]; exact ⟨rfl, hB⟩
theorem rall_ok {s : ByteArray} {rs : List Rec} {d : Int} {w w' : World} {u : Value} (h : wall s.data.toList d = .ok rs) (ho : w'.ownsRow w.heap.size 39 5 u rs.length (rs.flatMap recCells)) (hB : Below w.heap.size w w') : RAllPost s d w (.returned (.tuple #[u, .bool true])) w' := by
  unfold RAllPost; rw [h]; exact ⟨u, rfl, ho, hB⟩
set_option maxRecDepth 100000 in
set_option maxHeartbeats 4000000 in
theorem rall_any (s : ByteArray) (d : Int) (w : World) (hs : s.size ≤ 1000000000) (hd : d ≤ 9223372036854775807) :
    Calls Tryd.prog 25 #[.string s, .int .i64 d] w (RAllPost s d w) := by
  have HL := Lib.hid (show s.data.toList.length = s.size by simp)
  have HS := Lib.hid hs
  have HD := Lib.hid hd
  clear hd
  go_enter Tryd.func25, Tryd.ntmps25
  go_wp2_with fail
  go_loopg [6, 7] s.size (fun k v a wr => ∃ (q : Nat) (acc : List Rec), q + k = s.size ∧ a = .int .i64 (q : Int) ∧ AlRel s.data.toList d q acc ∧ wr.ownsRow w.heap.size 39 5 v acc.length (acc.flatMap recCells) ∧ Below w.heap.size w wr)
  case atStart => exact ⟨0, [], by omega, rfl, al_start _ _, World.ownsRow_nil _ _ _ _, Below.refl _ _⟩
  case round =>
    obtain ⟨q, acc, hqk, rfl, hal, hown, hb⟩ := hrel
    have HA := Lib.hid hal
    have HB := Lib.hid hb
    have HQ := Lib.hid hqk
    have hqs : q ≤ s.size := by omega
    have hsz : s.size ≤ 1000000000 := HS.out
    have hacc : acc.length ≤ q := hal.2.1
    have hwb : w.heap.size ≤ wr.heap.size := hb.size
    clear hal hb hqk
    by_cases hlt : q < s.size
    · cases hn : wnx (s.data.toList.drop q) d with
      | error c =>
        have HN := Lib.hid hn
        have HF := Lib.hid (al_err HA.out (by have := HL.out; omega) hn)
        clear hn hown
        go_wp2_with fail
        refine (rnext_any s q d _ hqs hsz HD.out).mono ?_; intro e w1 hpost
        unfold RNextPost at hpost
        rw [HN.out] at hpost
        obtain ⟨rfl, hb1⟩ := hpost
        have HB1 := Lib.hid (below_step HB.out hb1)
        clear hb1
        unfold rec0
        go_wp2_with fail
        go_ret2
        exact rall_no HF.out (below_step HB1.out (below_new _ _))
      | ok x =>
        obtain ⟨r, j⟩ := x
        have HN := Lib.hid hn
        have HG := Lib.hid (al_next HA.out hn)
        have HJ := Lib.hid (wnx_len hn)
        have hqj : q + j ≤ s.size := by have := HJ.out.2; have := HL.out; omega
        have hj2 : 2 ≤ j := HJ.out.1
        clear hn
        go_wp2_with fail
        refine (rnext_any s q d _ hqs hsz HD.out).mono ?_; intro e w1 hpost
        unfold RNextPost at hpost
        rw [HN.out] at hpost
        obtain ⟨rfl, hb1⟩ := hpost
        have HB1 := Lib.hid hb1
        have hown1 := (own_below hown hb1).alloc (.cells #[.int .i64 (r.num : Int), .int .i64 (r.ty : Int), .int .u64 (r.n : Int), .string ⟨r.s.toArray⟩, .string ⟨r.raw.toArray⟩] 39)
        have hs1 := hb1.size
        clear hb1 hown
        unfold recV
        go_wp2_with (at_builtin; refine wpList_app1 (c := 1) (cs := recCells r) rfl _ _ 47 rfl Tryd.elRRec (by decide) hown1 rfl (by show Value.slice (some ⟨w1.heap.size + 1, 0, none⟩) 1 1 = _; simp) rfl (by simp [recCells, Value.oneCell']) (by unfold maxLen; omega) (by omega) (by simp; omega) ?_; intro v' w2 hown' hgrow)
        have HO2 : Hid (w2.ownsRow w.heap.size 39 5 v' (acc ++ [r]).length ((acc ++ [r]).flatMap recCells)) := Lib.hid (by
          have e1 : (acc ++ [r]).length = acc.length + 1 := by simp
          have e2 : (acc ++ [r]).flatMap recCells = acc.flatMap recCells ++ recCells r := by simp
          rw [e1, e2]; exact hown')
        have HB2 : Hid (Below w.heap.size w w2) := Lib.hid (((below_step HB.out HB1.out).alloc (by omega) _).grown hgrow (by simp; omega) (fun k hk => (hown1.lt _ hk).1))
        have hq := HQ.out
        go_roundg (s.size - (q + j))
        case measure => omega
        case rel => exact ⟨q + j, acc ++ [r], by omega, by simp, HG.out, HO2.out, HB2.out⟩
    · have HF := Lib.hid (al_end HA.out (by have := HL.out; have := HQ.out; omega))
      have HO := Lib.hid hown
      clear hown
      go_wp2_with fail
      go_ret2
      exact rall_ok HF.out HO.out HB.out
end Go.Proofs.YtbhppchdoalahaaDoor
