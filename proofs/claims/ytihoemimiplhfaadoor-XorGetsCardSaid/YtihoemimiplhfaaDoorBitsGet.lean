/-
  bits.NewReader, (*bits.Reader).take, Get, At, left.
-/
import Derived.Test.YtihoemimiplhfaaDoorBitsPut2
import Derived.Test.YtihoemimiplhfaaDoorErrMk
namespace Go.Proofs.YtihoemimiplhfaaDoor
open Go.RowKit

/-- a Reader at block p -/
def RAt (w : World) (p : Nat) (s : ByteArray) (i : Nat) : Prop := w.heap[p]? = some (.cells #[.string s, .int .i64 (i : Int)] 120 (0, 0))
theorem newr_any (s : ByteArray) (w : World) : Calls Tryd.prog 39 #[.string s] w fun e w' => e = .returned (.pointer (some ⟨w.heap.size, 0, none⟩)) ∧ w' = w.alloc (.cells #[.string s, .int .i64 0] 120) := by
  go_enter Tryd.func39, Tryd.ntmps39
  go_wp2_with fail
  go_ret
  exact ⟨rfl, rfl⟩
theorem rat_new (s : ByteArray) (w : World) : RAt (w.alloc (.cells #[.string s, .int .i64 0] 120)) w.heap.size s 0 := heap_alloc_new w _
theorem left_any (p : Nat) (s : ByteArray) (i : Nat) (w : World) (h : RAt w p s i) (hs : s.size ≤ 1000000000) (hi : i ≤ 8 * s.size) : Calls Tryd.prog 64 #[.pointer (some ⟨p, 0, none⟩)] w fun e w' => e = .returned (.int .i64 (8 * (s.size : Int) - i)) ∧ ∃ n, w' = w.drewN n := by
  have hc0 := row_cell h (j := 0) rfl
  have hc1 := row_cell h (j := 1) rfl
  clear h
  go_enter Tryd.func64, Tryd.ntmps64
  go_wp2_with fail
  go_quiet (fail)
  go_wp2_with fail
  go_ret
  exact ⟨rfl, _, rfl⟩
theorem or_low (A B s : Nat) (hB : B < 2 ^ s) (hlt : A * 2 ^ s + B < 2 ^ 64) : bits .or .u64 (IntKind.u64.wrap ((A : Int) * 2 ^ s)) (B : Int) = ((A * 2 ^ s + B : Nat) : Int) := by
  have e : (A : Int) * 2 ^ s = ((A * 2 ^ s : Nat) : Int) := by simp
  rw [e, IntKind.wrap_u64, Int.emod_eq_of_lt (by omega) (by omega), u64_or_nat _ _ (by omega) (by omega)]
  congr 1
  exact nat_join s (A * 2 ^ s) B (Nat.mul_mod_left _ _) hB
theorem chunk_get (x k s : Nat) : IntKind.u8.wrap ((x : Int) * 2 ^ k) / 2 ^ (8 - s) = ((x * 2 ^ k % 256 / 2 ^ (8 - s) : Nat) : Int) := by
  have e : (x : Int) * 2 ^ k = ((x * 2 ^ k : Nat) : Int) := by simp
  have e2 : IntKind.u8.wrap ((x : Int) * 2 ^ k) = ((x * 2 ^ k % 256 : Nat) : Int) := by rw [e]; simp [IntKind.wrap, IntKind.bits, IntKind.signed]
  rw [e2]; simp
theorem get_step (s : ByteArray) (i m d k b : Nat) (hb : b = m / 8) (hk : k = m % 8) (hbs : b < s.size) (him : i ≤ m) (hd : k + d ≤ 8) (h64 : m - i + d ≤ 64) (h8 : m + d ≤ 8 * s.size) :
    bits .or .u64 (IntKind.u64.wrap ((getB s.data.toList i (m - i) : Nat) * 2 ^ d)) (IntKind.u64.wrap (((s[b]'hbs).toNat : Int) * 2 ^ k % 256 / 2 ^ (8 - d))) = ((getB s.data.toList i (m + d - i) : Nat) : Int) := by
  have hl : s.data.toList.length = s.size := by simp
  have hbyte := getB_byte s.data.toList m d (by omega) (by omega) (by omega)
  subst hb
  have hsb : (s[m / 8]'hbs).toNat = (s.data.toList[m / 8]'(by omega)).toNat := rfl
  rw [← hk, ← hsb] at hbyte
  have e : IntKind.u64.wrap (((s[m / 8]'hbs).toNat : Int) * 2 ^ k % 256 / 2 ^ (8 - d)) = ((getB s.data.toList m d : Nat) : Int) := by
    have e1 : ((s[m / 8]'hbs).toNat : Int) * 2 ^ k % 256 / 2 ^ (8 - d) = (((s[m / 8]'hbs).toNat * 2 ^ k % 256 / 2 ^ (8 - d) : Nat) : Int) := by simp
    rw [e1, ← hbyte]
    have h1 := getB_lt s.data.toList m d
    have h2 : 2 ^ d ≤ 2 ^ 64 := Nat.pow_le_pow_right (by omega) (by omega)
    rw [IntKind.wrap_u64, Int.emod_eq_of_lt (by omega) (by omega)]
  rw [e]
  have hp := getB_part s.data.toList i (m - i) d (by omega)
  rw [show i + (m - i) = m by omega, show m - i + d = m + d - i by omega] at hp
  have h1 := getB_lt s.data.toList i (m + d - i)
  have h2 : 2 ^ (m + d - i) ≤ 2 ^ 64 := Nat.pow_le_pow_right (by omega) (by omega)
  rw [or_low _ _ _ (getB_lt _ _ _) (by omega), ← hp]
theorem rat_step {wr : World} {p m nq : Nat} {s : ByteArray} (h : RAt wr p s m) (M : Int) (q : Nat) (hM : M = (q : Int)) : RAt ((wr.drewN nq).setCell ⟨p, 1, none⟩ (.int .i64 M)) p s q ∧ Upd (fun k => k = p) wr ((wr.drewN nq).setCell ⟨p, 1, none⟩ (.int .i64 M)) := by
  subst hM
  refine ⟨?_, (Upd.drewN _ wr nq).trans (Upd.set _ ⟨p, 1, none⟩ _)⟩
  unfold RAt
  rw [row_set (cs := #[.string s, .int .i64 (m : Int)]) (T := 120) (by rw [(drewN_heap wr nq).1]; exact h)]
  rfl
set_option maxRecDepth 1000000 in
set_option maxHeartbeats 4000000 in
theorem btake_any (p : Nat) (s : ByteArray) (i c : Nat) (w : World) (h : RAt w p s i) (hs : s.size ≤ 1000000000) (hc : c ≤ 64) (hi : i + c ≤ 8 * s.size) :
    Calls Tryd.prog 65 #[.pointer (some ⟨p, 0, none⟩), .int .i64 c] w fun e w' => e = .returned (.int .u64 (getB s.data.toList i c : Nat)) ∧ RAt w' p s (i + c) ∧ Upd (fun k => k = p) w w' := by
  have HS := Lib.hid (show s.data.toList.length = s.size by simp)
  have H := Lib.hid h
  have hci := hc
  have hii := hi
  clear h
  go_enter Tryd.func65, Tryd.ntmps65
  go_wp2_with fail
  go_loopw [1, 5] (fun x y wr => ∃ (d m : Nat), m + d = i + c ∧ i ≤ m ∧ x = .int .i64 (d : Int) ∧ y = .int .u64 (getB s.data.toList i (m - i) : Nat) ∧ RAt wr p s m ∧ Upd (fun k => k = p) w wr) (fun x _ _ => (intOf x).toNat)
  case atStart => exact ⟨c, i, rfl, Nat.le_refl _, rfl, by rw [Nat.sub_self, getB_zero]; rfl, H.out, Upd.refl _ _⟩
  case round =>
    obtain ⟨d, m, hmd, him, rfl, rfl, HR, HU⟩ := hrel
    have HMD := Lib.hid hmd
    have HU' := Lib.hid HU
    have HR' := Lib.hid HR
    have hm8 : m + d ≤ 8 * s.size := by omega
    have hdm : m - i + d ≤ 64 := by omega
    have hc0 : wr.cell? ⟨p, 0, none⟩ = some (.string s) := row_cell HR (j := 0) rfl
    have hc1 : wr.cell? ⟨p, 1, none⟩ = some (.int .i64 (m : Int)) := row_cell HR (j := 1) rfl
    have hf1 := row_thaw HR 1
    clear HU HR hmd
    by_cases h0 : 0 < d
    · have hml : m / 8 < s.size := by omega
      have hlt : m % 8 < 8 := by omega
      obtain ⟨k, hk⟩ : ∃ k : Nat, (m : Int) % 8 = (k : Int) := ⟨m % 8, by simp⟩
      have hk2 : k = m % 8 := by omega
      have HK := Lib.hid hk
      have HK2 := Lib.hid hk2
      have hk8 : k < 8 := by omega
      clear hk hk2 hlt
      go_wp2_with fail
      · rw [HK.out]
        have hdk : k + d < 8 := by have hh : (d : Int) < 8 - (m : Int) % 8 := (by assumption); have := HK.out; omega
        have q1 : (0 : Int) ≤ 8 - (d : Int) := by omega
        have q2 : (0 : Int) ≤ (d : Int) := by omega
        have q3 : (0 : Int) ≤ (k : Int) := by omega
        have q4 : IntKind.i64.wrap (8 - (d : Int)) = 8 - (d : Int) := IntWalk.i64_in _ (by omega)
        obtain ⟨b, hb⟩ : ∃ b : Nat, b = m / 8 := ⟨_, rfl⟩
        have q5 : IntKind.i64.wrap ((m : Int) / 8) = (b : Int) := by rw [IntWalk.i64_in _ (by omega)]; omega
        have q6 : (0 : Int) ≤ (b : Int) := by omega
        have q7 : (b : Int) < (s.size : Int) := by omega
        have hbs : b < s.size := by omega
        have HB := Lib.hid hb
        clear hb hml
        go_quiet (fail)
        rw [get_step s i m d k b HB.out HK2.out hbs him (by omega) hdm hm8]
        go_wp2_with fail
        obtain ⟨r1, r2⟩ := rat_step HR'.out (nq := nq) ((m : Int) + (d : Int)) (m + d) (by simp)
        have hmd := HMD.out
        exact ⟨⟨0, m + d, by omega, by omega, rfl, rfl, r1, HU'.out.trans r2⟩, by simpa [intOf] using h0⟩
      · rw [HK.out]
        obtain ⟨e, he⟩ : ∃ e : Nat, (8 : Int) - (k : Int) = (e : Int) := ⟨8 - k, by omega⟩
        have hke : k + e = 8 := by omega
        have hed : e ≤ d := by have hh : ¬ (d : Int) < 8 - (m : Int) % 8 := (by first | assumption | (intro hc; have : 8 - (m : Int) % 8 ≤ (d : Int) := (by assumption); omega)); have := HK.out; omega
        rw [he]
        have he0 : 0 < e := by omega
        clear he
        have q1 : (0 : Int) ≤ 8 - (e : Int) := by omega
        have q2 : (0 : Int) ≤ (e : Int) := by omega
        have q3 : (0 : Int) ≤ (k : Int) := by omega
        have q4 : IntKind.i64.wrap (8 - (e : Int)) = 8 - (e : Int) := IntWalk.i64_in _ (by omega)
        obtain ⟨b, hb⟩ : ∃ b : Nat, b = m / 8 := ⟨_, rfl⟩
        have q5 : IntKind.i64.wrap ((m : Int) / 8) = (b : Int) := by rw [IntWalk.i64_in _ (by omega)]; omega
        have q6 : (0 : Int) ≤ (b : Int) := by omega
        have q7 : (b : Int) < (s.size : Int) := by omega
        have hbs : b < s.size := by omega
        have HB := Lib.hid hb
        clear hb hml
        go_quiet (fail)
        rw [get_step s i m e k b HB.out HK2.out hbs him (by omega) (by omega) (by omega)]
        go_wp2_with fail
        obtain ⟨r1, r2⟩ := rat_step HR'.out (nq := nq) ((m : Int) + (e : Int)) (m + e) (by simp)
        have hmd := HMD.out
        exact ⟨⟨d - e, m + e, by omega, by omega, by rw [show ((d - e : Nat) : Int) = (d : Int) - (e : Int) by omega], rfl, r1, HU'.out.trans r2⟩, by simp [intOf]; omega⟩
    · obtain rfl : d = 0 := by omega
      have hmd := HMD.out
      obtain rfl : m = i + c := by omega
      rw [show i + c - i = c by omega]
      clear hmd
      go_wp2_with fail
      go_ret
      exact ⟨rfl, HR'.out, HU'.out⟩
theorem below_drewN (w : World) (n : Nat) : Below w.heap.size w (w.drewN n) := (Upd.drewN (fun _ => False) w n).below (Nat.le_refl _) (fun _ _ h => h.elim)
theorem errNew_alloc {w : World} {n c : Int} (nq : Nat) : ErrNew w n c (.iface 103 (.pointer (some ⟨w.heap.size, 0, none⟩))) ((w.drewN nq).alloc (.cells #[.int .i64 n, .iface 29 (.int .i64 c)] 105)) := by
  have h := errNew_at (n := n) (c := c) (below_drewN w nq)
  rw [(drewN_heap w nq).1] at h
  exact h
theorem drewN_size (w : World) (n : Nat) : (w.drewN n).heap.size = w.heap.size := by rw [(drewN_heap w n).1]
def BGet (s : ByteArray) (i : Nat) (c : Int) (p : Nat) (w : World) (e : Ending) (w' : World) : Prop :=
  if c < 0 ∨ 64 < c then ∃ v, e = .returned (.tuple #[.int .u64 0, v]) ∧ ErrNew w i 9 v w'
  else if 8 * (s.size : Int) - i < c then ∃ v, e = .returned (.tuple #[.int .u64 0, v]) ∧ ErrNew w i 1 v w'
  else e = .returned (.tuple #[.int .u64 (getB s.data.toList i c.toNat : Nat), .nilIface]) ∧ RAt w' p s (i + c.toNat) ∧ Upd (fun k => k = p) w w'
theorem upd_drewN {S : Nat → Prop} {w w' : World} {n : Nat} (h : Upd S (w.drewN n) w') : Upd S w w' := (Upd.drewN S w n).trans h
set_option maxRecDepth 1000000 in
set_option maxHeartbeats 4000000 in
theorem bget_any (p : Nat) (s : ByteArray) (i : Nat) (c : Int) (w : World) (h : RAt w p s i) (hs : s.size ≤ 1000000000) (hi : i ≤ 8 * s.size) :
    Calls Tryd.prog 40 #[.pointer (some ⟨p, 0, none⟩), .int .i64 c] w (BGet s i c p w) := by
  have hc1 : w.cell? ⟨p, 1, none⟩ = some (.int .i64 (i : Int)) := row_cell h (j := 1) rfl
  have H := Lib.hid h
  clear h
  by_cases hb : c < 0 ∨ 64 < c
  · have hd : decide (0 ≤ c ∧ c ≤ 64) = false := by simp; omega
    have HB := Lib.hid hb
    clear hb
    go_enter Tryd.func40, Tryd.ntmps40
    go_wp2_with fail
    refine (counts_any c w).mono ?_; rintro e w' ⟨rfl, rfl⟩
    rw [hd]
    go_wp2_with fail
    refine (at_any _ _ _ w).mono ?_; rintro e w' ⟨rfl, rfl⟩
    go_wp2_with fail
    go_ret2
    unfold BGet
    rw [if_pos HB.out]
    exact ⟨_, rfl, errNew_alloc 0⟩
  · have hd : decide (0 ≤ c ∧ c ≤ 64) = true := by simp; omega
    obtain ⟨k, rfl⟩ := Int.eq_ofNat_of_zero_le (show 0 ≤ c by omega)
    have hk : k ≤ 64 := by omega
    have HB := Lib.hid hb
    clear hb
    by_cases hl : 8 * (s.size : Int) - i < k
    · have HL := Lib.hid hl
      go_enter Tryd.func40, Tryd.ntmps40
      go_wp2_with fail
      refine (counts_any k w).mono ?_; rintro e w' ⟨rfl, rfl⟩
      rw [hd]
      go_wp2_with fail
      refine (left_any p s i w H.out hs hi).mono ?_; rintro e w' ⟨rfl, nq, rfl⟩
      go_wp2_with fail
      refine (at_any _ _ _ _).mono ?_; rintro e w' ⟨rfl, rfl⟩
      go_wp2_with fail
      go_ret2
      unfold BGet
      rw [if_neg HB.out, if_pos HL.out]
      exact ⟨_, rfl, errNew_alloc nq⟩
    · have hl' : (k : Int) ≤ 8 * (s.size : Int) - i := by omega
      have HL := Lib.hid hl'
      clear hl
      go_enter Tryd.func40, Tryd.ntmps40
      go_wp2_with fail
      refine (counts_any k w).mono ?_; rintro e w' ⟨rfl, rfl⟩
      rw [hd]
      go_wp2_with fail
      refine (left_any p s i w H.out hs hi).mono ?_; rintro e w' ⟨rfl, nq, rfl⟩
      go_wp2_with fail
      refine (btake_any p s i k _ (by unfold RAt; rw [(drewN_heap w nq).1]; exact H.out) hs hk (by omega)).mono ?_; rintro e w' ⟨rfl, h1, h2⟩
      have H1 := Lib.hid h1
      have H2 := Lib.hid (upd_drewN h2)
      clear h1 h2
      go_wp2_with fail
      go_ret2
      unfold BGet
      rw [if_neg HB.out, if_neg (Int.not_lt.2 HL.out)]
      exact ⟨rfl, H1.out, H2.out⟩
end Go.Proofs.YtihoemimiplhfaaDoor
