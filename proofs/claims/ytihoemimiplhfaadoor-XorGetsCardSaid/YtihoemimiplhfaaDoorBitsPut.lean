/-
  (*bits.Writer).Put, Len, String.
-/
import Derived.Test.YtihoemimiplhfaaDoorGet
import Derived.Test.YtihoemimiplhfaaDoorBitsMath
import Derived.Test.YtihoemimiplhfaaDoorNums2
import Derived.Test.YtihoemimiplhfaaDoorUpd
import Derived.StillTailTactics
import Derived.IntWalk
import Derived.BigQuiet
import Derived.Deep.QuietTactic
namespace Go.Proofs.YtihoemimiplhfaaDoor
open Go.RowKit

/-- a Writer at block p: its bytes l in the slice v, n bits of value V -/
def WAt (w : World) (p : Nat) (v : Value) (n V : Nat) (l : List UInt8) : Prop :=
  w.heap[p]? = some (.cells #[v, .int .i64 (n : Int)] 61 (0, 0)) ∧ w.ownsRow (p + 1) 5 1 v l.length (bys l) ∧ WB n V l ∧ 8 * l.length - n < 8

theorem counts_any (c : Int) (w : World) : Calls Tryd.prog 57 #[.int .i64 c] w fun e w' => e = .returned (.bool (decide (0 ≤ c ∧ c ≤ 64))) ∧ w = w' := by
  by_cases h0 : 0 ≤ c
  · by_cases h1 : c ≤ 64
    · go_enter Tryd.func57, Tryd.ntmps57
      go_wp2
      go_ret
      exact ⟨ret_bool (by simp [h0, h1]), rfl⟩
    · go_enter Tryd.func57, Tryd.ntmps57
      go_wp2
      go_ret
      exact ⟨ret_bool (by simp [h1]), rfl⟩
  · go_enter Tryd.func57, Tryd.ntmps57
    go_wp2
    go_ret
    exact ⟨ret_bool (by simp; omega), rfl⟩

theorem drewN_heap (w : World) (n : Nat) : (w.drewN n).heap = w.heap ∧ (w.drewN n).os = w.os ∧ (w.drewN n).tape = w.tape ∧ (w.drewN n).output = w.output := by
  induction n with
  | zero => exact ⟨rfl, rfl, rfl, rfl⟩
  | succ n ih => exact ih
theorem Upd.drewN (S : Nat → Prop) (w : World) (n : Nat) : Upd S w (w.drewN n) := by
  obtain ⟨h1, h2, h3, h4⟩ := drewN_heap w n
  exact ⟨h2, h3, h4, by rw [h1]; exact Nat.le_refl _, fun _ _ _ => by rw [h1]⟩
/-- the byte that Put stores, in the code's words -/
theorem byte_or_chunk (x A s f : Nat) (hx : x < 256) (hs : s ≤ f) (hf : f ≤ 8) : bits .or .u8 (x : Int) (IntKind.u64.wrap ((A : Int) * 2 ^ (8 - s)) % 256 / 2 ^ (8 - f)) = ((x ||| A % 2 ^ s * 2 ^ (f - s) : Nat) : Int) := by
  have h := chunk_byte A 0 s f hs hf
  rw [Nat.pow_zero, Nat.div_one] at h
  have e : (IntKind.u64.wrap ((A : Int) * 2 ^ (8 - s)) % 256 / 2 ^ (8 - f)) = ((A * 2 ^ (8 - s) % 256 / 2 ^ (8 - f) : Nat) : Int) := by
    rw [IntKind.wrap_u64]
    have : ((A : Int) * 2 ^ (8 - s)) % 18446744073709551616 % 256 = ((A * 2 ^ (8 - s) % 256 : Nat) : Int) := by
      have e2 : ((A : Int) * 2 ^ (8 - s)) = ((A * 2 ^ (8 - s) : Nat) : Int) := by simp
      rw [e2]; omega
    rw [this]; simp
  rw [e, h]
  have h2 : A % 2 ^ s * 2 ^ (f - s) < 256 := by
    have h3 : A % 2 ^ s < 2 ^ s := Nat.mod_lt _ (Nat.pow_pos (by omega))
    have h4 : A % 2 ^ s * 2 ^ (f - s) < 2 ^ s * 2 ^ (f - s) := Nat.mul_lt_mul_of_pos_right h3 (Nat.pow_pos (by omega))
    rw [← Nat.pow_add, show s + (f - s) = f by omega] at h4
    have : 2 ^ f ≤ 2 ^ 8 := Nat.pow_le_pow_right (by omega) hf
    omega
  exact u8_or_nat x _ hx h2
/-- the Writer behind one round -/
theorem wat_put {wr wq : World} {p g cap m U nq : Nat} {l2 : List UInt8} {x : UInt8} (hcell : wr.heap[p]? = some (.cells #[.slice (some ⟨g, 0, none⟩) (l2.length + 1) cap, .int .i64 (m : Int)] 61 (0, 0)))
    (hown : wr.ownsRow (p + 1) 5 1 (.slice (some ⟨g, 0, none⟩) (l2.length + 1) cap) (l2.length + 1) (bys (l2 ++ [x]))) (hwb : WB m U (l2 ++ [x])) (hq : wr.drewN nq = wq)
    {s ch f : Nat} (hf : f = 8 * (l2.length + 1) - m) (hs : s ≤ f) (hs1 : 1 ≤ s) (hch : ch < 2 ^ s) {B M : Int} (hB : B = ((x.toNat ||| ch * 2 ^ (f - s) : Nat) : Int)) (hM : M = ((m + s : Nat) : Int)) :
    ∃ l', WAt ((wq.setCell ⟨g, l2.length, none⟩ (.int .u8 B)).setCell ⟨p, 1, none⟩ (.int .i64 M)).drew p (.slice (some ⟨g, 0, none⟩) (l2.length + 1) cap) (m + s) (U * 2 ^ s + ch) l' ∧
      Upd (fun k => k = p ∨ k = g) wr ((wq.setCell ⟨g, l2.length, none⟩ (.int .u8 B)).setCell ⟨p, 1, none⟩ (.int .i64 M)).drew := by
  subst hf
  obtain ⟨h1, h2⟩ := wb_put hwb hs hch
  subst hM
  have hx2 : B = ((UInt8.ofNat (x.toNat ||| ch * 2 ^ (8 * (l2.length + 1) - m - s))).toNat : Int) := by rw [hB, ofNat_toNat h1]
  subst hx2
  have hU := Upd.drewN (fun _ => False) wr nq
  rw [hq] at hU
  have hown2 := hU.own hown (fun _ _ h => h)
  have hlt := hown.lt g rfl
  have hp := row_lt hcell
  have hcell2 : wq.heap[p]? = some (.cells #[.slice (some ⟨g, 0, none⟩) (l2.length + 1) cap, .int .i64 (m : Int)] 61 (0, 0)) := by rw [← hq, (drewN_heap wr nq).1]; exact hcell
  have h8 := hwb.2.1
  rw [List.length_append, List.length_singleton] at h8
  refine ⟨_, ⟨?_, ?_, h2, by simp; omega⟩, ?_⟩
  · show ((wq.setCell ⟨g, l2.length, none⟩ _).setCell ⟨p, 1, none⟩ _).heap[p]? = _
    rw [row_set (by rw [Below.heap_setCell _ _ _ _ (by simp; omega)]; exact hcell2)]
    rfl
  · have h3 := ownsRow_setCell_below (hown2.stored l2.length (.int .u8 ((UInt8.ofNat (x.toNat ||| ch * 2 ^ (8 * (l2.length + 1) - m - s))).toNat : Int))).1 (a := ⟨p, 1, none⟩) (by simp) (.int .i64 ((m + s : Nat) : Int))
    have e : (bys (l2 ++ [x])).set l2.length (.int .u8 ((UInt8.ofNat (x.toNat ||| ch * 2 ^ (8 * (l2.length + 1) - m - s))).toNat : Int)) = bys (l2 ++ [UInt8.ofNat (x.toNat ||| ch * 2 ^ (8 * (l2.length + 1) - m - s))]) := by
      simp only [bys, List.map_append, List.map_cons, List.map_nil]
      rw [List.set_append_right _ _ (by simp)]
      simp
    rw [e] at h3
    have h4 : (l2 ++ [UInt8.ofNat (x.toNat ||| ch * 2 ^ (8 * (l2.length + 1) - m - s))]).length = l2.length + 1 := by simp
    rw [h4]
    exact h3.drew
  · refine (Upd.trans' (S := fun k => k = p ∨ k = g) (Upd.trans' (S := fun k => k = p ∨ k = g) (hU.mono fun _ _ h => h.elim) (Upd.set wq ⟨g, l2.length, none⟩ _) (fun k _ h => .inr h)) (Upd.set _ ⟨p, 1, none⟩ _) (fun k _ h => .inl h)).trans (Upd.drew _ _)

/-- what Put may turn -/
def putS (p : Nat) (v : Value) (k : Nat) : Prop := k = p ∨ v.ownBlock = some k
theorem u_step {U V N c r s : Nat} (h : U = V * 2 ^ (c - (r + s)) + N / 2 ^ (r + s)) (hr : r + s ≤ c) : U * 2 ^ s + N / 2 ^ r % 2 ^ s = V * 2 ^ (c - r) + N / 2 ^ r := by
  subst h
  rw [Nat.add_mul, Nat.mul_assoc, ← Nat.pow_add, show c - (r + s) + s = c - r by omega, Nat.add_assoc, put_part]
theorem upd_put {w wr w2 : World} {p g n cap : Nat} {v : Value} (h : Upd (putS p v) w wr) (hv : (Value.slice (some ⟨g, 0, none⟩) n cap).ownBlock = v.ownBlock ∨ ∀ k, (Value.slice (some ⟨g, 0, none⟩) n cap).ownBlock = some k → w.heap.size ≤ k) (h2 : Upd (fun k => k = p ∨ k = g) wr w2) : Upd (putS p v) w w2 := by
  refine h.trans' h2 fun k hk hs => ?_
  rcases hs with rfl | rfl
  · exact .inl rfl
  · rcases hv with hv | hv
    · exact .inr hv.symm
    · have := hv k rfl; omega
set_option maxRecDepth 1000000 in
set_option maxHeartbeats 4000000 in
theorem bput_ok (p : Nat) (v : Value) (n V N c : Nat) (l : List UInt8) (w : World) (hw : WAt w p v n V l) (hc : c ≤ 64) (hN : Hid (N < 2 ^ c)) (hb : n + c ≤ 1000000) :
    Calls Tryd.prog 31 #[.pointer (some ⟨p, 0, none⟩), .int .u64 N, .int .i64 c] w
      fun e w' => ∃ v' l', e = .returned .nilIface ∧ WAt w' p v' (n + c) (V * 2 ^ c + N) l' ∧ Upd (putS p v) w w' ∧ (v'.ownBlock = v.ownBlock ∨ ∀ k, v'.ownBlock = some k → w.heap.size ≤ k) := by
  have hd : decide (0 ≤ (c : Int) ∧ (c : Int) ≤ 64) = true := by simp; omega
  have HW := Lib.hid hw
  clear hw
  go_enter Tryd.func31, Tryd.ntmps31
  go_wp2_with fail
  refine (counts_any (c : Int) w).mono ?_; rintro e w' ⟨rfl, rfl⟩
  rw [hd]
  have hz : ((N : Int) / 2 ^ c != 0) = false := by
    have : N / 2 ^ c = 0 := Nat.div_eq_of_lt hN.out
    have e : (N : Int) / 2 ^ c = ((N / 2 ^ c : Nat) : Int) := by simp
    rw [e, this]; rfl
  go_wp2_with fail
  go_loopw [2] (fun x wr => ∃ (d m U : Nat) (v' : Value) (l' : List UInt8), d ≤ c ∧ m + d = n + c ∧ U = V * 2 ^ (c - d) + N / 2 ^ d ∧ x = .int .i64 (d : Int) ∧ WAt wr p v' m U l' ∧ Upd (putS p v) w wr ∧ (v'.ownBlock = v.ownBlock ∨ ∀ k, v'.ownBlock = some k → w.heap.size ≤ k)) (fun x _ => (intOf x).toNat)
  case atStart => exact ⟨c, n, V, v, l, Nat.le_refl _, rfl, by simp [Nat.div_eq_of_lt hN.out], rfl, HW.out, Upd.refl _ _, .inl rfl⟩
  case round =>
    obtain ⟨d, m, U, v', l', hd, hmd, hU, rfl, HW', HU, hv⟩ := hrel
    have HUU := Lib.hid hU
    have HU' := Lib.hid HU
    have hv' := Lib.hid hv
    have hmd' := Lib.hid hmd
    have hm : m + d ≤ 1000000 := by omega
    clear HU hv hU hmd
    by_cases h0 : 0 < d
    · obtain ⟨hcell, hown, hwb, _⟩ := HW'
      obtain ⟨ao, cap, rfl⟩ := own_slice hown
      have hc0 := row_cell hcell (j := 0) rfl
      have hc1 := row_cell hcell (j := 1) rfl
      have hf0 := row_thaw hcell 0
      have hf1 := row_thaw hcell 1
      have HWB := Lib.hid hwb
      have HC := Lib.hid hcell
      have hlen : l'.length ≤ 125001 := by have := hwb.1; have := hwb.2.1; omega
      have hml : m ≤ 8 * l'.length := hwb.1
      have hml2 : 8 * l'.length - m ≤ 8 := hwb.2.1
      clear hcell hwb
      by_cases hful : 8 * l'.length = m
      · have he : ((8 : Int) * l'.length - m == 0) = true := by simp; omega
        have hlen2 : l'.length ≤ 125000 := by omega
        have hp := row_lt HC.out
        have hful' := Lib.hid hful
        go_wp2_with fail
        go_quiet (fail)
        generalize hwq : World.drewN wr _ = wq
        have HQ0 := Lib.hid hwq
        have k0 : wq.cell? ⟨p, 0, none⟩ = some (.slice ao l'.length cap) := by rw [← hwq]; simpa using hc0
        have k1 : wq.cell? ⟨p, 1, none⟩ = some (.int .i64 (m : Int)) := by rw [← hwq]; simpa using hc1
        have k4 : wq.frozen? ⟨p, 0, none⟩ = false := by rw [← hwq]; simpa using hf0
        have kb : wq.heap[p]? = some (.cells #[.slice ao l'.length cap, .int .i64 (m : Int)] 61 (0, 0)) := by rw [← hwq, (drewN_heap wr _).1]; exact HC.out
        have kown : wq.ownsRow (p + 1) 5 1 (.slice ao l'.length cap) l'.length (bys l') := by
          rw [← hwq]; exact (Upd.drewN (fun _ => False) wr _).own hown (fun _ _ h => h)
        have kp : p + 1 ≤ wq.heap.size := by have := row_lt kb; omega
        have KB := Lib.hid kb
        clear hwq hc0 hc1 hf0 hf1 hown kb hful
        go_wp2_with (at_builtin; refine wpList_app1_at rfl _ _ 59 rfl Tryd.elU8 (by decide) kown rfl rfl rfl (by simp [Value.oneCell']) (by unfold maxLen; omega) (by omega) kp ?_; intro g cap2 w1 hown2 hgrow hwhere; have hne2 : (Value.slice ao l'.length cap).ownBlock ≠ some p := (fun h => by have := kown.lt _ h; omega); have kb1 : w1.heap[p]? = some (.cells #[.slice ao l'.length cap, .int .i64 (m : Int)] 61 (0, 0)) := ((hgrow.block p kp (fun h => hne2 h.symm)).trans KB.out); have j0 : w1.cell? ⟨p, 0, none⟩ = some (.slice ao l'.length cap) := row_cell kb1 (j := 0) rfl; have j1 : w1.cell? ⟨p, 1, none⟩ = some (.int .i64 (m : Int)) := row_cell kb1 (j := 1) rfl; have jf := row_thaw kb1 0; have jf1 := row_thaw kb1 1; have KB1 := Lib.hid kb1; clear kb1 hne2)
        · have hd8 : d ≤ 8 := by omega
          have HC2 : Hid ((w1.setCell ⟨p, 0, none⟩ (.slice (some ⟨g, 0, none⟩) (l'.length + 1) cap2)).heap[p]? = some (.cells #[.slice (some ⟨g, 0, none⟩) (l'.length + 1) cap2, .int .i64 (m : Int)] 61 (0, 0))) := Lib.hid (by rw [row_set KB1.out]; rfl)
          have hown3 : Hid ((w1.setCell ⟨p, 0, none⟩ (.slice (some ⟨g, 0, none⟩) (l'.length + 1) cap2)).ownsRow (p + 1) 5 1 (.slice (some ⟨g, 0, none⟩) (l'.length + 1) cap2) (l'.length + 1) (bys (l' ++ [0]))) := Lib.hid (by
            have := ownsRow_setCell_below hown2 (a := ⟨p, 0, none⟩) (by simp) (.slice (some ⟨g, 0, none⟩) (l'.length + 1) cap2)
            rw [bys_push _ 0 (by simp)] at this
            exact this)
          have HWB2 : Hid (WB m U (l' ++ [0])) := Lib.hid (wb_grow HWB.out hful'.out.symm)
          have HF : Hid (8 = 8 * (l'.length + 1) - m) := Lib.hid (by have := hful'.out; omega)
          have HU2 : Hid (Upd (putS p v) w (w1.setCell ⟨p, 0, none⟩ (.slice (some ⟨g, 0, none⟩) (l'.length + 1) cap2))) := Lib.hid (by
            have q1 : Upd (putS p v) w wq := by rw [← HQ0.out]; exact HU'.out.trans (Upd.drewN _ _ _)
            refine (q1.trans' (Upd.of_grown hgrow) fun k hk hs => ?_).trans' (Upd.set _ _ _) (fun k _ h => .inl h)
            rcases hv'.out with h | h
            · exact .inr (h.symm.trans hs)
            · have := h k hs; omega)
          have hv2 : Hid ((Value.slice (some ⟨g, 0, none⟩) (l'.length + 1) cap2).ownBlock = v.ownBlock ∨ ∀ k, (Value.slice (some ⟨g, 0, none⟩) (l'.length + 1) cap2).ownBlock = some k → w.heap.size ≤ k) := Lib.hid (by
            have q1 : Upd (putS p v) w wq := by rw [← HQ0.out]; exact HU'.out.trans (Upd.drewN _ _ _)
            have hsz := q1.size
            rcases hwhere with h | h
            · rcases hv'.out with h2 | h2
              · exact .inl (by rw [← h2, h]; rfl)
              · exact .inr fun k hk => by
                  have e : g = k := by simpa [Value.ownBlock] using hk
                  subst e
                  exact h2 _ h
            · exact .inr fun k hk => by
                have e : g = k := by simpa [Value.ownBlock] using hk
                omega)
          clear hown2 hgrow hwhere kown hp kp
          generalize hwz : World.setCell w1 _ _ = wz
          have hc0 : wz.cell? ⟨p, 0, none⟩ = some (.slice (some ⟨g, 0, none⟩) (l'.length + 1) cap2) := by rw [← hwz]; exact row_cell HC2.out (j := 0) rfl
          have hc1 : wz.cell? ⟨p, 1, none⟩ = some (.int .i64 (m : Int)) := by rw [← hwz]; exact row_cell HC2.out (j := 1) rfl
          have hx : wz.cell? ⟨g, l'.length, none⟩ = some (.int .u8 0) := by rw [← hwz, hown3.out.cellAt l'.length (by omega)]; simp [bys]
          have hxf : wz.frozen? ⟨g, l'.length, none⟩ = false := by rw [← hwz]; exact hown3.out.frozenAt l'.length
          have hf1 : wz.frozen? ⟨p, 1, none⟩ = false := by rw [← hwz]; exact row_thaw HC2.out 1
          have HQ := Lib.hid hwz
          have hi1 : (0 : Int) ≤ (l'.length : Int) := by omega
          have hi2 : (l'.length : Int) < (l'.length : Int) + 1 := by omega
          have hi3 : (0 : Int) ≤ 8 - (d : Int) := by omega
          have w2 : IntKind.i64.wrap ((l'.length : Int) + 1 - 1) = (l'.length : Int) := by rw [IntWalk.i64_in _ (by omega)]; omega
          have w3 : IntKind.i64.wrap (8 - (d : Int)) = 8 - (d : Int) := IntWalk.i64_in _ (by omega)
          have w4 : IntKind.i64.wrap ((l'.length : Int)) = (l'.length : Int) := IntWalk.i64_in _ (by omega)
          have hbg : p + 1 ≤ g := (hown3.out.lt g rfl).1
          have w5 : IntKind.i64.wrap (0 : Int) = 0 := rfl
          have w6 : IntKind.i64.wrap (8 - 8 : Int) = 0 := rfl
          clear hwz k0 k1 k4 j0 j1 jf jf1
          go_still_tail 24, (by kernel_rfl)
          go_wp2_with fail
          have hB : bits .or .u8 0 (IntKind.u64.wrap ((N : Int) * 2 ^ (8 - d)) % 256) = (((0 : UInt8).toNat ||| N % 2 ^ d * 2 ^ (8 - d) : Nat) : Int) := by
            have := byte_or_chunk 0 N d 8 (by omega) hd8 (by omega)
            rw [Nat.sub_self, Int.pow_zero, Int.ediv_one] at this
            exact this
          obtain ⟨l3, q1, q2⟩ := wat_put HC2.out hown3.out HWB2.out (nq := 0) HQ.out (s := d) (ch := N % 2 ^ d) (f := 8) HF.out hd8 h0 (Nat.mod_lt _ (Nat.pow_pos (by omega))) hB (M := (m : Int) + (d : Int)) (by simp)
          have hmm := hmd'.out
          refine ⟨⟨0, m + d, U * 2 ^ d + N % 2 ^ d, _, l3, by omega, by omega, ?_, rfl, q1, upd_put HU2.out hv2.out q2, hv2.out⟩, by simpa [intOf] using h0⟩
          have := u_step (U := U) (r := 0) (s := d) (c := c) (V := V) (N := N) (by rw [Nat.zero_add]; exact HUU.out) (by omega)
          simp only [Nat.pow_zero, Nat.div_one] at this ⊢
          exact this
        · have hd8 : 8 ≤ d := by omega
          have HC2 : Hid ((w1.setCell ⟨p, 0, none⟩ (.slice (some ⟨g, 0, none⟩) (l'.length + 1) cap2)).heap[p]? = some (.cells #[.slice (some ⟨g, 0, none⟩) (l'.length + 1) cap2, .int .i64 (m : Int)] 61 (0, 0))) := Lib.hid (by rw [row_set KB1.out]; rfl)
          have hown3 : Hid ((w1.setCell ⟨p, 0, none⟩ (.slice (some ⟨g, 0, none⟩) (l'.length + 1) cap2)).ownsRow (p + 1) 5 1 (.slice (some ⟨g, 0, none⟩) (l'.length + 1) cap2) (l'.length + 1) (bys (l' ++ [0]))) := Lib.hid (by
            have := ownsRow_setCell_below hown2 (a := ⟨p, 0, none⟩) (by simp) (.slice (some ⟨g, 0, none⟩) (l'.length + 1) cap2)
            rw [bys_push _ 0 (by simp)] at this
            exact this)
          have HWB2 : Hid (WB m U (l' ++ [0])) := Lib.hid (wb_grow HWB.out hful'.out.symm)
          have HF : Hid (8 = 8 * (l'.length + 1) - m) := Lib.hid (by have := hful'.out; omega)
          have HU2 : Hid (Upd (putS p v) w (w1.setCell ⟨p, 0, none⟩ (.slice (some ⟨g, 0, none⟩) (l'.length + 1) cap2))) := Lib.hid (by
            have q1 : Upd (putS p v) w wq := by rw [← HQ0.out]; exact HU'.out.trans (Upd.drewN _ _ _)
            refine (q1.trans' (Upd.of_grown hgrow) fun k hk hs => ?_).trans' (Upd.set _ _ _) (fun k _ h => .inl h)
            rcases hv'.out with h | h
            · exact .inr (h.symm.trans hs)
            · have := h k hs; omega)
          have hv2 : Hid ((Value.slice (some ⟨g, 0, none⟩) (l'.length + 1) cap2).ownBlock = v.ownBlock ∨ ∀ k, (Value.slice (some ⟨g, 0, none⟩) (l'.length + 1) cap2).ownBlock = some k → w.heap.size ≤ k) := Lib.hid (by
            have q1 : Upd (putS p v) w wq := by rw [← HQ0.out]; exact HU'.out.trans (Upd.drewN _ _ _)
            have hsz := q1.size
            rcases hwhere with h | h
            · rcases hv'.out with h2 | h2
              · exact .inl (by rw [← h2, h]; rfl)
              · exact .inr fun k hk => by
                  have e : g = k := by simpa [Value.ownBlock] using hk
                  subst e
                  exact h2 _ h
            · exact .inr fun k hk => by
                have e : g = k := by simpa [Value.ownBlock] using hk
                omega)
          clear hown2 hgrow hwhere kown hp kp
          generalize hwz : World.setCell w1 _ _ = wz
          have hc0 : wz.cell? ⟨p, 0, none⟩ = some (.slice (some ⟨g, 0, none⟩) (l'.length + 1) cap2) := by rw [← hwz]; exact row_cell HC2.out (j := 0) rfl
          have hc1 : wz.cell? ⟨p, 1, none⟩ = some (.int .i64 (m : Int)) := by rw [← hwz]; exact row_cell HC2.out (j := 1) rfl
          have hx : wz.cell? ⟨g, l'.length, none⟩ = some (.int .u8 0) := by rw [← hwz, hown3.out.cellAt l'.length (by omega)]; simp [bys]
          have hxf : wz.frozen? ⟨g, l'.length, none⟩ = false := by rw [← hwz]; exact hown3.out.frozenAt l'.length
          have hf1 : wz.frozen? ⟨p, 1, none⟩ = false := by rw [← hwz]; exact row_thaw HC2.out 1
          have HQ := Lib.hid hwz
          have hi1 : (0 : Int) ≤ (l'.length : Int) := by omega
          have hi2 : (l'.length : Int) < (l'.length : Int) + 1 := by omega
          have hi3 : (0 : Int) ≤ 8 - 8 := by omega
          have w2 : IntKind.i64.wrap ((l'.length : Int) + 1 - 1) = (l'.length : Int) := by rw [IntWalk.i64_in _ (by omega)]; omega
          have w3 : IntKind.i64.wrap (8 - 8) = 8 - 8 := IntWalk.i64_in _ (by omega)
          have w4 : IntKind.i64.wrap ((l'.length : Int)) = (l'.length : Int) := IntWalk.i64_in _ (by omega)
          have hbg : p + 1 ≤ g := (hown3.out.lt g rfl).1
          have w5 : IntKind.i64.wrap (0 : Int) = 0 := rfl
          have w6 : IntKind.i64.wrap (8 - 8 : Int) = 0 := rfl
          clear hwz k0 k1 k4 j0 j1 jf jf1
          go_still_tail 24, (by kernel_rfl)
          go_wp2_with fail
          have hB : bits .or .u8 0 (IntKind.u64.wrap ((N : Int) / 2 ^ (d - 8)) % 256) = (((0 : UInt8).toNat ||| N / 2 ^ (d - 8) % 2 ^ 8 * 2 ^ (8 - 8) : Nat) : Int) := by
            have := byte_or_chunk 0 (N / 2 ^ (d - 8)) 8 8 (by omega) (by omega) (by omega)
            rw [show ((N / 2 ^ (d - 8) : Nat) : Int) = (N : Int) / 2 ^ (d - 8) by simp, Nat.sub_self, Int.pow_zero, Int.ediv_one, Int.mul_one] at this
            exact this
          obtain ⟨l3, q1, q2⟩ := wat_put HC2.out hown3.out HWB2.out (nq := 0) HQ.out (s := 8) (ch := N / 2 ^ (d - 8) % 2 ^ 8) (f := 8) HF.out (by omega) (by omega) (Nat.mod_lt _ (Nat.pow_pos (by omega))) hB (M := (m : Int) + 8) (by simp)
          have hmm := hmd'.out
          refine ⟨⟨d - 8, m + 8, U * 2 ^ 8 + N / 2 ^ (d - 8) % 2 ^ 8, _, l3, by omega, by omega, ?_, by rw [show ((d - 8 : Nat) : Int) = (d : Int) - 8 by omega], q1, upd_put HU2.out hv2.out q2, hv2.out⟩, by simp [intOf]; omega⟩
          exact u_step (r := d - 8) (s := 8) (by rw [show d - 8 + 8 = d by omega]; exact HUU.out) (by omega)
      · obtain ⟨l2, x, rfl⟩ := snoc_of_len (l := l') (n := l'.length - 1) (by omega)
        rw [List.length_append, List.length_singleton] at hown hml hml2 hful hlen
        obtain ⟨g, cap', he, hbg, hgl, hcap, hcm⟩ := own_some hown (by omega)
        obtain ⟨rfl, rfl⟩ : ao = some ⟨g, 0, none⟩ ∧ cap = cap' := by simp at he; exact ⟨he.1, he.2⟩
        have hx : wr.cell? ⟨g, l2.length, none⟩ = some (.int .u8 (x.toNat : Int)) := by rw [hown.cellAt l2.length (by omega)]; simp [bys]
        have hxf := hown.frozenAt l2.length
        simp only [List.length_append, List.length_singleton] at hc0 HC
        obtain ⟨f, hf⟩ : ∃ f : Nat, f = 8 * (l2.length + 1) - m := ⟨_, rfl⟩
        have hfi : 8 * ((l2.length : Int) + 1) - (m : Int) = (f : Int) := by omega
        have HF := Lib.hid hf
        have HFI := Lib.hid hfi
        have hf8 : f ≤ 8 := by omega
        have hfp := Lib.hid (show 1 ≤ f by omega)
        have hne : ((f : Int) == 0) = false := by simp; omega
        clear hf hfi hful he
        go_wp2_with fail
        go_quiet (fail)
        rw [HFI.out]
        rcases Nat.lt_or_ge d f with hsd | hsd
        · have hsf : d ≤ f := by omega
          go_wp2_with fail
          generalize hwq : World.drewN wr _ = wq
          have k0 : wq.cell? ⟨p, 0, none⟩ = some (.slice (some ⟨g, 0, none⟩) (l2.length + 1) cap) := by rw [← hwq]; simpa using hc0
          have k1 : wq.cell? ⟨p, 1, none⟩ = some (.int .i64 (m : Int)) := by rw [← hwq]; simpa using hc1
          have k2 : wq.cell? ⟨g, l2.length, none⟩ = some (.int .u8 (x.toNat : Int)) := by rw [← hwq]; simpa using hx
          have k3 : wq.frozen? ⟨g, l2.length, none⟩ = false := by rw [← hwq]; simpa using hxf
          have k4 : wq.frozen? ⟨p, 1, none⟩ = false := by rw [← hwq]; simpa using hf1
          have HQ := Lib.hid hwq
          have hi1 : (0 : Int) ≤ (l2.length : Int) := by omega
          have hi2 : (l2.length : Int) < (l2.length : Int) + 1 := by omega
          have hi3 : (0 : Int) ≤ 8 - (d : Int) := by omega
          have hi4 : (0 : Int) ≤ 8 - (f : Int) := by omega
          have w1 : IntKind.i64.wrap ((l2.length : Int) + 1 - 1) = (l2.length : Int) := by rw [IntWalk.i64_in _ (by omega)]; omega
          have w2 : IntKind.i64.wrap (8 - (d : Int)) = 8 - (d : Int) := IntWalk.i64_in _ (by omega)
          have w3 : IntKind.i64.wrap (8 - (f : Int)) = 8 - (f : Int) := IntWalk.i64_in _ (by omega)
          have w4 : IntKind.i64.wrap ((l2.length : Int)) = (l2.length : Int) := IntWalk.i64_in _ (by omega)
          clear hwq hc0 hc1 hx hxf hf1
          go_still_tail 24, (by kernel_rfl)
          go_wp2_with fail
          have hB := byte_or_chunk x.toNat (N) d f x.toNat_lt hsf hf8
          obtain ⟨l3, q1, q2⟩ := wat_put HC.out hown HWB.out HQ.out (s := d) (ch := N % 2 ^ d) (f := f) HF.out hsf h0 (Nat.mod_lt _ (Nat.pow_pos (by omega))) hB (M := (m : Int) + (d : Int)) (by simp)
          have hmm := hmd'.out
          refine ⟨⟨0, m + d, U * 2 ^ d + N % 2 ^ d, _, l3, by omega, by omega, ?_, rfl, q1, upd_put HU'.out hv'.out q2, hv'.out⟩, by simpa [intOf] using h0⟩
          have := u_step (U := U) (r := 0) (s := d) (c := c) (V := V) (N := N) (by rw [Nat.zero_add]; exact HUU.out) (by omega)
          simp only [Nat.pow_zero, Nat.div_one] at this ⊢
          exact this
        · have hsf : f ≤ f := Nat.le_refl _
          go_wp2_with fail
          generalize hwq : World.drewN wr _ = wq
          have k0 : wq.cell? ⟨p, 0, none⟩ = some (.slice (some ⟨g, 0, none⟩) (l2.length + 1) cap) := by rw [← hwq]; simpa using hc0
          have k1 : wq.cell? ⟨p, 1, none⟩ = some (.int .i64 (m : Int)) := by rw [← hwq]; simpa using hc1
          have k2 : wq.cell? ⟨g, l2.length, none⟩ = some (.int .u8 (x.toNat : Int)) := by rw [← hwq]; simpa using hx
          have k3 : wq.frozen? ⟨g, l2.length, none⟩ = false := by rw [← hwq]; simpa using hxf
          have k4 : wq.frozen? ⟨p, 1, none⟩ = false := by rw [← hwq]; simpa using hf1
          have HQ := Lib.hid hwq
          have hi1 : (0 : Int) ≤ (l2.length : Int) := by omega
          have hi2 : (l2.length : Int) < (l2.length : Int) + 1 := by omega
          have hi3 : (0 : Int) ≤ 8 - (f : Int) := by omega
          have hi4 : (0 : Int) ≤ 8 - (f : Int) := by omega
          have w1 : IntKind.i64.wrap ((l2.length : Int) + 1 - 1) = (l2.length : Int) := by rw [IntWalk.i64_in _ (by omega)]; omega
          have w3 : IntKind.i64.wrap (8 - (f : Int)) = 8 - (f : Int) := IntWalk.i64_in _ (by omega)
          have w4 : IntKind.i64.wrap ((l2.length : Int)) = (l2.length : Int) := IntWalk.i64_in _ (by omega)
          clear hwq hc0 hc1 hx hxf hf1
          go_still_tail 24, (by kernel_rfl)
          go_wp2_with fail
          have hB := byte_or_chunk x.toNat (N / 2 ^ (d - f)) f f x.toNat_lt hsf hf8
          rw [show ((N / 2 ^ (d - f) : Nat) : Int) = (N : Int) / 2 ^ (d - f) by simp] at hB
          obtain ⟨l3, q1, q2⟩ := wat_put HC.out hown HWB.out HQ.out (s := f) (ch := N / 2 ^ (d - f) % 2 ^ f) (f := f) HF.out hsf hfp.out (Nat.mod_lt _ (Nat.pow_pos (by omega))) hB (M := (m : Int) + (f : Int)) (by simp)
          have hmm := hmd'.out
          have hfp := hfp.out
          refine ⟨⟨d - f, m + f, U * 2 ^ f + N / 2 ^ (d - f) % 2 ^ f, _, l3, by omega, by omega, ?_, by rw [show ((d - f : Nat) : Int) = (d : Int) - (f : Int) by omega], q1, upd_put HU'.out hv'.out q2, hv'.out⟩, by simp [intOf]; omega⟩
          exact u_step (r := d - f) (s := f) (by rw [show d - f + f = d by omega]; exact HUU.out) (by omega)
    · obtain rfl : d = 0 := by omega
      have hmm := hmd'.out
      have hW2 : WAt wr p v' (n + c) (V * 2 ^ c + N) l' := by
        have e1 : m = n + c := by omega
        have e2 : U = V * 2 ^ c + N := by rw [HUU.out, Nat.sub_zero, Nat.pow_zero, Nat.div_one]
        rw [← e1, ← e2]; exact HW'
      have HW2 := Lib.hid hW2
      clear hW2 HW' hmm
      go_wp2_with fail
      go_ret
      exact ⟨v', l', rfl, HW2.out, HU'.out, hv'.out⟩
end Go.Proofs.YtihoemimiplhfaaDoor
