/-
  The reference's Fixeds, Varints.
-/
import Derived.Test.YtdokbooggbiciaaGreatDoorWireRW
namespace Go.Proofs.YtdokbooggbiciaaGreatDoor
open Go.RowKit

def RFixedsPost (s : ByteArray) (w : World) (e : Ending) (w' : World) : Prop :=
  if s.size % 8 = 0 then ∃ u, e = .returned (.tuple #[u, .bool true]) ∧ w'.ownsRow w.heap.size 44 1 u (s.size / 8) (nats64 (fixs s.data.toList (s.size / 8))) ∧ Below w.heap.size w w'
  else e = .returned (.tuple #[.slice none 0 0, .bool false]) ∧ Below w.heap.size w w'
theorem rfixeds_ok {s : ByteArray} {w w' : World} {u : Value} {K : Nat} (h : s.size = 8 * K) (ho : w'.ownsRow w.heap.size 44 1 u K (nats64 (fixs s.data.toList K))) (hB : Below w.heap.size w w') : RFixedsPost s w (.returned (.tuple #[u, .bool true])) w' := by
  have e : s.size / 8 = K := by omega
  unfold RFixedsPost; rw [if_pos (by omega), e]; exact ⟨u, rfl, ho, hB⟩
def RVarsPost (s : ByteArray) (w : World) (e : Ending) (w' : World) : Prop := match wvars s.data.toList with
  | .error c => e = .returned (.tuple #[.slice none 0 0, .int .i64 (c : Int)]) ∧ Below w.heap.size w w'
  | .ok ns => ∃ u, e = .returned (.tuple #[u, .int .i64 0]) ∧ w'.ownsRow w.heap.size 44 1 u ns.length (nats64 ns) ∧ ns.length ≤ s.size ∧ Below w.heap.size w w'
theorem rvars_no {s : ByteArray} {c : Nat} {w w' : World} (h : wvars s.data.toList = .error c) (hB : Below w.heap.size w w') : RVarsPost s w (.returned (.tuple #[.slice none 0 0, .int .i64 (c : Int)])) w' := by
  unfold RVarsPost; rw [h]; exact ⟨rfl, hB⟩
theorem rvars_ok {s : ByteArray} {ns : List Nat} {w w' : World} {u : Value} (h : wvars s.data.toList = .ok ns) (ho : w'.ownsRow w.heap.size 44 1 u ns.length (nats64 ns)) (hl : ns.length ≤ s.size) (hB : Below w.heap.size w w') : RVarsPost s w (.returned (.tuple #[u, .int .i64 0])) w' := by
  unfold RVarsPost; rw [h]; exact ⟨u, rfl, ho, hl, hB⟩
theorem rget_ok (s : ByteArray) (p : Int) (w : World) (hs : s.size ≤ 1000000000) {n q : Nat} (h : vget s.data.toList p = .ok (n, q)) :
    Calls Tryz.prog 57 #[.string s, .int .i64 p] w fun e w' => e = .returned (.tuple #[.int .u64 n, .int .i64 q, .int .i64 0]) ∧ w = w' :=
  (refget_any s p w (by omega)).mono fun e w' ⟨h1, h2⟩ => by rw [h] at h2; exact ⟨h2, h1⟩
theorem rget_err (s : ByteArray) (p : Int) (w : World) (hs : s.size ≤ 1000000000) {c : Nat} (h : vget s.data.toList p = .error c) :
    Calls Tryz.prog 57 #[.string s, .int .i64 p] w fun e w' => e = .returned (.tuple #[.int .u64 0, .int .i64 0, .int .i64 c]) ∧ w = w' :=
  (refget_any s p w (by omega)).mono fun e w' ⟨h1, h2⟩ => by rw [h] at h2; exact ⟨h2, h1⟩
set_option maxRecDepth 100000 in
set_option maxHeartbeats 4000000 in
theorem rvarints_any (s : ByteArray) (w : World) (hs : s.size ≤ 1000000) :
    Calls Tryz.prog 30 #[.string s] w (RVarsPost s w) := by
  have HL := Lib.hid (show s.data.toList.length = s.size by simp)
  have HS := Lib.hid hs
  go_enter Tryz.func30, Tryz.ntmps30
  go_wp2_with fail
  go_loopg [4, 5] s.size (fun k v a wr => ∃ (q : Nat) (acc : List Nat), q + k = s.size ∧ a = .int .i64 (q : Int) ∧ VsRel s.data.toList q acc ∧ wr.ownsRow w.heap.size 44 1 v acc.length (nats64 acc) ∧ Below w.heap.size w wr)
  case atStart => exact ⟨0, [], by omega, rfl, vs_start _, World.ownsRow_nil _ _ _ _, Below.refl _ _⟩
  case round =>
    obtain ⟨q, acc, hqk, rfl, hal, hown, hb⟩ := hrel
    have HA := Lib.hid hal
    have HB := Lib.hid hb
    have HQ := Lib.hid hqk
    have hqs : q ≤ s.size := by omega
    have hsz : s.size ≤ 1000000 := HS.out
    have hacc : acc.length ≤ q := hal.2.1
    have hbs : w.heap.size ≤ wr.heap.size := hb.size
    clear hal hb hqk
    by_cases hlt : q < s.size
    · cases hn : wv (s.data.toList.drop q) with
      | error c =>
        have HV := Lib.hid (vget_no (by have := HL.out; omega) hn)
        have HF := Lib.hid (vs_err HA.out (by have := HL.out; omega) hn)
        have hc0 : ((c : Int) != 0) = true := by have := wv_err hn; simp; omega
        clear hn hown
        go_wp2_with fail
        refine (rget_err s q _ (by omega) HV.out).mono ?_; rintro e w' ⟨rfl, rfl⟩
        go_wp2_with fail
        go_ret2
        exact rvars_no HF.out HB.out
      | ok x =>
        obtain ⟨n, j⟩ := x
        have HV := Lib.hid (vget_ok (by have := HL.out; omega) hn)
        have HG := Lib.hid (vs_next HA.out hn)
        have HJ := Lib.hid (wv_bounds hn)
        have hqj : q + j ≤ s.size := by have := HJ.out.2.1; simp at this; have := HL.out; omega
        have hj1 : 1 ≤ j := HJ.out.1
        clear hn
        go_wp2_with (first
          | (go_at_call 57; refine (rget_ok s q _ (by omega) HV.out).mono ?_; rintro e w' ⟨rfl, rfl⟩)
          | (at_builtin; refine wpList_app1 rfl _ _ 23 rfl Tryz.elU64 (by decide) hown rfl rfl rfl (by simp [Value.oneCell']) (by unfold maxLen; omega) (by omega) hbs ?_; intro v' w2 hown' hgrow))
        have HO2 : Hid (w2.ownsRow w.heap.size 44 1 v' (acc ++ [n]).length (nats64 (acc ++ [n]))) := Lib.hid (by simpa [nats64] using hown')
        have HB2 : Hid (Below w.heap.size w w2) := Lib.hid (HB.out.grown hgrow hbs (fun k hk => (hown.lt _ hk).1))
        have hq := HQ.out
        go_roundg (s.size - (q + j))
        case measure => omega
        case rel => exact ⟨q + j, acc ++ [n], by omega, by simp, HG.out, HO2.out, HB2.out⟩
    · have HF := Lib.hid (vs_end HA.out (by have := HL.out; have := HQ.out; omega))
      have HO := Lib.hid hown
      clear hown
      go_wp2_with fail
      go_ret2
      exact rvars_ok HF.out HO.out (by omega) HB.out
end Go.Proofs.YtdokbooggbiciaaGreatDoor
