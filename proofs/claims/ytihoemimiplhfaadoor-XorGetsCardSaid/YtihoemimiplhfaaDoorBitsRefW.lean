/-
  The reference's Bits: Put and Text.
-/
import Derived.Test.YtihoemimiplhfaaDoorBitsRef
import Derived.StillTailTactics
namespace Go.Proofs.YtihoemimiplhfaaDoor
open Go.RowKit

/-- bits, each a byte, as a number -/
def bitV (l : List UInt8) : Nat := l.foldl (fun a b => a * 2 + b.toNat) 0
theorem bitV_snoc (l : List UInt8) (b : UInt8) : bitV (l ++ [b]) = bitV l * 2 + b.toNat := by simp [bitV]
def Bits01 (l : List UInt8) : Prop := ∀ b ∈ l, b.toNat ≤ 1
theorem bits01_snoc {l : List UInt8} {b : UInt8} (h : Bits01 l) (hb : b.toNat ≤ 1) : Bits01 (l ++ [b]) := by
  intro x hx
  rcases List.mem_append.1 hx with hx | hx
  · exact h x hx
  · rw [List.mem_singleton.1 hx]; exact hb
theorem bitV_lt : ∀ (l : List UInt8), Bits01 l → bitV l < 2 ^ l.length := by
  intro l
  induction hn : l.length generalizing l with
  | zero => intro _; obtain rfl := List.length_eq_zero_iff.1 hn; decide
  | succ n ih =>
    intro h
    obtain ⟨l', x, rfl⟩ := snoc_of_len hn
    have h1 := ih l' (by simpa using hn) (fun y hy => h y (by simp [hy]))
    have h2 := h x (by simp)
    rw [bitV_snoc, Nat.pow_succ]
    omega
/-- the reference's Bits at block q: its bits L in the slice v -/
def RWAt (w : World) (q : Nat) (v : Value) (L : List UInt8) : Prop :=
  w.heap[q]? = some (.cells #[v] 68 (0, 0)) ∧ w.ownsRow (q + 1) 5 1 v L.length (bys L) ∧ Bits01 L
theorem bit_at (N i : Nat) : bits .and .u64 ((N : Int) / 2 ^ i) 1 % 256 = ((UInt8.ofNat (N / 2 ^ i % 2)).toNat : Int) := by
  rw [shr_and1]
  have : N / 2 ^ i % 2 < 2 := Nat.mod_lt _ (by omega)
  have e : (UInt8.ofNat (N / 2 ^ i % 2)).toNat = N / 2 ^ i % 2 := by
    generalize N / 2 ^ i % 2 = x at *
    simp; omega
  rw [e]; omega
theorem two_part (N i : Nat) : N / 2 ^ (i + 1) * 2 + N / 2 ^ i % 2 = N / 2 ^ i := by
  have := put_part N i 1
  simpa using this
set_option maxRecDepth 1000000 in
set_option maxHeartbeats 4000000 in
theorem rput_ok (q : Nat) (v : Value) (N c : Nat) (L : List UInt8) (w : World) (hw : RWAt w q v L) (hc : c ≤ 64) (hN : Hid (N < 2 ^ c)) (hb : L.length + c ≤ 1000000) :
    Calls Tryd.prog 34 #[.pointer (some ⟨q, 0, none⟩), .int .u64 N, .int .i64 c] w
      fun e w' => ∃ v' L', e = .returned (.int .i64 0) ∧ RWAt w' q v' L' ∧ L'.length = L.length + c ∧ bitV L' = bitV L * 2 ^ c + N ∧ Upd (putS q v) w w' ∧ (v'.ownBlock = v.ownBlock ∨ ∀ k, v'.ownBlock = some k → w.heap.size ≤ k) := by
  have HW := Lib.hid hw
  clear hw
  have d1 : decide ((c : Int) < 0) = false := by simp
  have d2 : decide (64 < (c : Int)) = false := by simp; omega
  have d4 : (N : Int) / 2 ^ c = 0 := by
    have e : (N : Int) / 2 ^ c = ((N / 2 ^ c : Nat) : Int) := by simp
    rw [e, Nat.div_eq_of_lt hN.out]; rfl
  obtain ⟨b3, d3⟩ : ∃ b3, decide ((c : Int) < 64) = b3 := ⟨_, rfl⟩
  go_enter Tryd.func34, Tryd.ntmps34
  cases b3
  all_goals
    go_wp2_with fail
    go_loopw [7] (fun x wr => ∃ (k : Nat) (v' : Value) (L' : List UInt8), k ≤ c ∧ x = .int .i64 ((k : Int) - 1) ∧ RWAt wr q v' L' ∧ L'.length = L.length + (c - k) ∧ bitV L' = bitV L * 2 ^ (c - k) + N / 2 ^ k ∧ Upd (putS q v) w wr ∧ (v'.ownBlock = v.ownBlock ∨ ∀ k, v'.ownBlock = some k → w.heap.size ≤ k)) (fun x _ => (intOf x + 1).toNat)
    case atStart => exact ⟨c, v, L, Nat.le_refl _, rfl, HW.out, by simp, by simp [Nat.div_eq_of_lt hN.out], Upd.refl _ _, .inl rfl⟩
    case round =>
      obtain ⟨k, v', L', hk, rfl, ⟨hcell, hown, h01⟩, hlen, hval, hU, hv⟩ := hrel
      have hc0 : wr.cell? ⟨q, 0, none⟩ = some v' := row_cell hcell (j := 0) rfl
      have hf0 := row_thaw hcell 0
      have HC := Lib.hid hcell
      have HL := Lib.hid hlen
      have HV := Lib.hid hval
      have HU := Lib.hid hU
      have HVV := Lib.hid hv
      have H01 := Lib.hid h01
      have hL : L'.length ≤ 1000000 := by omega
      have hq : q + 1 ≤ wr.heap.size := row_lt hcell
      obtain ⟨ao, cap, rfl⟩ := own_slice hown
      clear hcell hlen hval hU hv h01
      rcases Nat.eq_zero_or_pos k with rfl | hk0
      · have e1 : L'.length = L.length + c := by have := HL.out; omega
        have e2 : bitV L' = bitV L * 2 ^ c + N := by have := HV.out; simpa using this
        have E1 := Lib.hid e1
        have E2 := Lib.hid e2
        have HO := Lib.hid hown
        clear e1 e2 hown
        go_wp2_with fail
        go_ret
        exact ⟨_, L', rfl, ⟨HC.out, HO.out, H01.out⟩, E1.out, E2.out, HU.out, HVV.out⟩
      · obtain ⟨j, rfl⟩ : ∃ j, k = j + 1 := ⟨k - 1, by omega⟩
        have ej : (((j + 1 : Nat) : Int) - 1) = (j : Int) := by omega
        rw [ej]
        clear ej
        have hbit := Lib.hid (bit_at N j)
        have hL2 : L'.length + 1 ≤ 1000000 := by have := HL.out; omega
        go_wp2_with (at_builtin; refine wpList_app1_at rfl _ _ 59 rfl Tryd.elU8 (by decide) hown rfl rfl rfl (by simp [Value.oneCell']) (by unfold maxLen; omega) (by omega) hq ?_; intro g cap2 w1 hown2 hgrow hwhere; have hne2 : (Value.slice ao L'.length cap).ownBlock ≠ some q := (fun h => by have := hown.lt _ h; omega); have kb1 : w1.heap[q]? = some (.cells #[.slice ao L'.length cap] 68 (0, 0)) := ((hgrow.block q hq (fun h => hne2 h.symm)).trans HC.out); have j0 : w1.cell? ⟨q, 0, none⟩ = some (.slice ao L'.length cap) := row_cell kb1 (j := 0) rfl; have jf := row_thaw kb1 0; have KB1 := Lib.hid kb1; clear kb1 hne2)
        have hb1 : (UInt8.ofNat (N / 2 ^ j % 2)).toNat = N / 2 ^ j % 2 := ofNat_toNat (by have : N / 2 ^ j % 2 < 2 := Nat.mod_lt _ (by omega); omega)
        rw [bys_push _ _ hbit.out] at hown2
        have hown3 := ownsRow_setCell_below hown2 (a := ⟨q, 0, none⟩) (by simp) (.slice (some ⟨g, 0, none⟩) (L'.length + 1) cap2)
        have hlen := HL.out
        refine ⟨⟨j, _, L' ++ [UInt8.ofNat (N / 2 ^ j % 2)], by omega, rfl, ⟨by rw [row_set KB1.out]; rfl, by rw [List.length_append, List.length_singleton]; exact hown3, bits01_snoc H01.out (by rw [hb1]; have : N / 2 ^ j % 2 < 2 := Nat.mod_lt _ (by omega); omega)⟩, by simp; omega, ?_, ?_, ?_⟩, by simp [intOf]⟩
        · rw [bitV_snoc, hb1, HV.out, Nat.add_mul, Nat.mul_assoc, ← Nat.pow_succ, show (c - (j + 1)).succ = c - j by omega, Nat.add_assoc, two_part]
        · refine (HU.out.trans' (Upd.of_grown hgrow) fun k hk hs => ?_).trans' (Upd.set _ _ _) (fun k _ h => .inl h)
          rcases HVV.out with h | h
          · exact .inr (h.symm.trans hs)
          · have := h k hs; omega
        · have hsz := HU.out.size
          rcases hwhere with h | h
          · rcases HVV.out with h2 | h2
            · exact .inl (by rw [← h2, h]; rfl)
            · exact .inr fun k hk => by
                have e : g = k := by simpa [Value.ownBlock] using hk
                subst e
                exact h2 _ h
          · exact .inr fun k hk => by
              have e : g = k := by simpa [Value.ownBlock] using hk
              omega
set_option maxRecDepth 1000000 in
set_option maxHeartbeats 4000000 in
theorem rput_err (q : Nat) (N : Nat) (c : Int) (w : World) (hc : c < 0 ∨ 64 < c ∨ ∃ k : Nat, c = (k : Int) ∧ k ≤ 64 ∧ 2 ^ k ≤ N) (hN : Hid (N < 2 ^ 64)) :
    Calls Tryd.prog 34 #[.pointer (some ⟨q, 0, none⟩), .int .u64 N, .int .i64 c] w fun e w' => e = .returned (.int .i64 9) ∧ w = w' := by
  by_cases hneg : c < 0
  · have d1 : decide (c < 0) = true := by simpa using hneg
    clear hc hneg
    go_enter Tryd.func34, Tryd.ntmps34
    go_wp2_with fail
    go_ret
    exact ⟨rfl, rfl⟩
  · obtain ⟨k, rfl⟩ := Int.eq_ofNat_of_zero_le (show 0 ≤ c by omega)
    have d1 : decide ((k : Int) < 0) = false := by simp
    by_cases hbig : 64 < k
    · have d2 : decide (64 < (k : Int)) = true := by simp; omega
      clear hc hneg
      go_enter Tryd.func34, Tryd.ntmps34
      go_wp2_with fail
      go_ret
      exact ⟨rfl, rfl⟩
    · have d2 : decide (64 < (k : Int)) = false := by simp; omega
      have hle : 2 ^ k ≤ N := by
        rcases hc with h | h | ⟨m, h1, h2, h3⟩
        · omega
        · omega
        · have : k = m := by omega
          subst this; exact h3
      have hk64 : k < 64 := by
        rcases Nat.lt_or_ge k 64 with hh | hh
        · exact hh
        · exfalso
          have : k = 64 := by omega
          subst this
          have := hN.out
          omega
      have d3 : decide ((k : Int) < 64) = true := by simp; omega
      obtain ⟨z, hz⟩ : ∃ z : Nat, N / 2 ^ k = z := ⟨_, rfl⟩
      have hz1 : 0 < z := by rw [← hz]; exact Nat.div_pos hle (Nat.pow_pos (by omega))
      have d4 : (N : Int) / 2 ^ k = (z : Int) := by rw [← hz]; simp
      clear hc hneg hle hz
      go_enter Tryd.func34, Tryd.ntmps34
      go_wp2_with fail
      go_ret
      exact ⟨rfl, rfl⟩
/-- one more bit, or'ed into its byte -/
theorem set_bit {l : List UInt8} {i X b : Nat} (hl : i < 8 * l.length) (hv : beVal l = X * 2 ^ (8 * l.length - i)) (hb : b ≤ 1) (hj : i / 8 < l.length) :
    l[i / 8].toNat ||| b * 2 ^ (7 - i % 8) < 256 ∧ beVal (l.set (i / 8) (UInt8.ofNat (l[i / 8].toNat ||| b * 2 ^ (7 - i % 8)))) = (X * 2 + b) * 2 ^ (8 * l.length - (i + 1)) := by
  have hsplit : l = l.take (i / 8) ++ ([l[i / 8]] ++ l.drop (i / 8 + 1)) := by simp
  have hset : ∀ y, l.set (i / 8) y = l.take (i / 8) ++ ([y] ++ l.drop (i / 8 + 1)) := by
    intro y
    rw [List.set_eq_take_append_cons_drop, if_pos hj]; rfl
  rw [hset]
  have hc := l[i / 8].toNat_lt
  generalize hx : l[i / 8] = x at hsplit hc
  generalize hm : l.drop (i / 8 + 1) = m at hsplit
  have hml : m.length = l.length - (i / 8 + 1) := by rw [← hm]; simp
  generalize l.take (i / 8) = pre at hsplit
  have hvl : beVal l = (beVal pre * 256 + x.toNat) * 256 ^ m.length + beVal m := by rw [hsplit, ← List.append_assoc, beVal_append, beVal_snoc]
  have hmlt := beVal_lt m
  obtain ⟨r, hr⟩ : ∃ r, i % 8 = r := ⟨_, rfl⟩
  have hr8 : r < 8 := by omega
  rw [hr]
  have e1 : 8 * l.length - i = 8 * m.length + (8 - r) := by omega
  have e2 : 8 * l.length - (i + 1) = 8 * m.length + (7 - r) := by omega
  have e256 : 2 ^ (8 * m.length) = 256 ^ m.length := by rw [Nat.pow_mul]
  rw [e1, Nat.pow_add, e256] at hv
  rw [hv] at hvl
  have hP : 0 < 256 ^ m.length := Nat.pow_pos (by omega)
  -- the bytes behind are zero
  have hm0 : beVal m = 0 := by
    have h1 : (X * (256 ^ m.length * 2 ^ (8 - r))) % 256 ^ m.length = 0 := by
      rw [show X * (256 ^ m.length * 2 ^ (8 - r)) = X * 2 ^ (8 - r) * 256 ^ m.length by rw [Nat.mul_comm (256 ^ m.length), ← Nat.mul_assoc]]
      exact Nat.mul_mod_left _ _
    rw [hvl, Nat.mul_comm, Nat.mul_add_mod, Nat.mod_eq_of_lt hmlt] at h1
    exact h1
  have hq : beVal pre * 256 + x.toNat = X * 2 ^ (8 - r) := by
    rw [hm0, Nat.add_zero] at hvl
    have h2 : X * 2 ^ (8 - r) * 256 ^ m.length = (beVal pre * 256 + x.toNat) * 256 ^ m.length := by rw [← hvl, Nat.mul_comm (256 ^ m.length), Nat.mul_assoc]
    exact (Nat.eq_of_mul_eq_mul_right hP h2).symm
  have hd : 256 = 2 ^ (8 - r) * 2 ^ r := by rw [← Nat.pow_add, show 8 - r + r = 8 by omega]
  have hz : x.toNat % 2 ^ (8 - r) = 0 := by
    have e3 : (beVal pre * 256 + x.toNat) % 2 ^ (8 - r) = 0 := by rw [hq]; exact Nat.mul_mod_left _ _
    rw [hd, Nat.add_mod, show beVal pre * (2 ^ (8 - r) * 2 ^ r) = beVal pre * 2 ^ r * 2 ^ (8 - r) by rw [Nat.mul_assoc, Nat.mul_comm (2 ^ (8 - r))], Nat.mul_mod_left, Nat.zero_add, Nat.mod_mod] at e3
    exact e3
  have hbl : b * 2 ^ (7 - r) < 2 ^ (8 - r) := by
    rw [show 8 - r = (7 - r) + 1 by omega, Nat.pow_succ]
    have : 0 < 2 ^ (7 - r) := Nat.pow_pos (by omega)
    have : b * 2 ^ (7 - r) ≤ 1 * 2 ^ (7 - r) := Nat.mul_le_mul_right _ hb
    omega
  have hor : x.toNat ||| b * 2 ^ (7 - r) = x.toNat + b * 2 ^ (7 - r) := nat_join (8 - r) x.toNat _ hz hbl
  have hlt : x.toNat + b * 2 ^ (7 - r) < 256 := by
    have e4 : x.toNat = x.toNat / 2 ^ (8 - r) * 2 ^ (8 - r) := by have := Nat.div_add_mod x.toNat (2 ^ (8 - r)); rw [Nat.mul_comm] at this; omega
    have e5 : x.toNat / 2 ^ (8 - r) < 2 ^ r := by
      rw [Nat.div_lt_iff_lt_mul (Nat.pow_pos (by omega)), Nat.mul_comm, ← hd]; exact hc
    have e6 : (x.toNat / 2 ^ (8 - r) + 1) * 2 ^ (8 - r) ≤ 2 ^ r * 2 ^ (8 - r) := Nat.mul_le_mul_right _ e5
    rw [Nat.mul_comm (2 ^ r), ← hd, Nat.add_mul, Nat.one_mul, ← e4] at e6
    omega
  rw [hor]
  refine ⟨hlt, ?_⟩
  have e7 : (UInt8.ofNat (x.toNat + b * 2 ^ (7 - r))).toNat = x.toNat + b * 2 ^ (7 - r) := ofNat_toNat hlt
  rw [← List.append_assoc, beVal_append, beVal_snoc, e7, hm0, Nat.add_zero, e2, Nat.pow_add, e256, ← Nat.add_assoc, hq]
  have e8 : X * (2 ^ (7 - r) * 2) + b * 2 ^ (7 - r) = (X * 2 + b) * 2 ^ (7 - r) := by rw [Nat.add_mul, Nat.mul_assoc X 2, Nat.mul_comm 2]
  rw [show 8 - r = (7 - r) + 1 by omega, Nat.pow_succ, e8, Nat.mul_assoc, Nat.mul_comm (2 ^ (7 - r))]
theorem bitV_take (L : List UInt8) (i : Nat) (h : i < L.length) : bitV (L.take (i + 1)) = bitV (L.take i) * 2 + L[i].toNat := by rw [List.take_succ_eq_append_getElem h, bitV_snoc]
theorem beVal_zeros (k : Nat) : beVal (List.replicate k 0) = 0 := by
  induction k with
  | zero => rfl
  | succ k ih => rw [List.replicate_succ', beVal_snoc, ih]; rfl
set_option maxRecDepth 1000000 in
set_option maxHeartbeats 4000000 in
theorem rtext_any (q : Nat) (v : Value) (L : List UInt8) (w : World) (hw : RWAt w q v L) (hn : L.length ≤ 1000000) :
    Calls Tryd.prog 37 #[.pointer (some ⟨q, 0, none⟩)] w fun e w' => e = .returned (.string ⟨(packB L.length (bitV L)).toArray⟩) ∧ Below w.heap.size w w' := by
  obtain ⟨i0, hi, hz0, hz1, hz2⟩ := info_parts Tryd.elU8.2.1
  obtain ⟨hcell, hown, h01⟩ := hw
  obtain ⟨ao, cap, rfl⟩ := own_slice hown
  have hc0 : w.cell? ⟨q, 0, none⟩ = some (.slice ao L.length cap) := row_cell hcell (j := 0) rfl
  have hq := row_lt hcell
  have H01 := Lib.hid h01
  obtain ⟨K, hK⟩ : ∃ K, (L.length + 7) / 8 = K := ⟨_, rfl⟩
  have hKi : ((L.length : Int) + 7) / 8 = (K : Int) := by omega
  have HK := Lib.hid hK
  have HKI := Lib.hid hKi
  have HO := Lib.hid hown
  have hK2 : K ≤ 125001 := by omega
  clear hcell h01 hK hKi hown
  go_enter Tryd.func37, Tryd.ntmps37
  go_wp2_with (refine wpList_make_full _ rfl _ _ 59 rfl w.heap.size 5 i0 (.int .u8 0) 1 Tryd.underlying59 hi hz0 hz1 _ _ _ _ K rfl rfl HKI.out HKI.out (by rw [hz2]; omega) (by unfold maxLen; omega) (Nat.le_refl _) ?_; intro w0 hown0 hgrow0)
  have hz : (madeCells (Value.int .u8 0).cells (K * 1)).toList = bys (List.replicate K 0) := by
    rw [Nat.mul_one]
    have := toList_madeCells_one (.int .u8 0) K
    simpa [bys, Value.cells] using this
  have HO0 : Hid (w0.ownsRow w.heap.size 5 1 (.slice (some ⟨w.heap.size, 0, none⟩) K K) K (bys (List.replicate K 0))) := Lib.hid (by rw [← hz]; exact hown0)
  have HB0 : Hid (Below w.heap.size w w0) := Lib.hid ((Below.refl _ _).grown hgrow0 (Nat.le_refl _) (fun k hk => by cases hk))
  have HSZ : Hid (w.heap.size < w0.heap.size) := Lib.hid (hown0.lt w.heap.size rfl).2
  clear hown0 hgrow0 hz
  have hKL : L.length ≤ 8 * K := by have := HK.out; omega
  have hKL2 : 8 * K ≤ L.length + 7 := by have := HK.out; omega
  go_loopw [4] (fun x wr => ∃ (i : Nat) (O : List UInt8), i ≤ L.length ∧ x = .int .i64 (i : Int) ∧ O.length = K ∧ wr.ownsRow w.heap.size 5 1 (.slice (some ⟨w.heap.size, 0, none⟩) K K) K (bys O) ∧ beVal O = bitV (L.take i) * 2 ^ (8 * K - i) ∧ Below w.heap.size w wr) (fun x _ => L.length - (intOf x).toNat)
  case atStart => exact ⟨0, List.replicate K 0, by omega, rfl, by simp, HO0.out, by rw [beVal_zeros]; simp [bitV], HB0.out⟩
  case round =>
    obtain ⟨i, O, hi, rfl, hOl, hown, hval, hb⟩ := hrel
    have hc0r := (hb.cell (p := ⟨q, 0, none⟩) hq).trans hc0
    have HV := Lib.hid hval
    have HB := Lib.hid hb
    have HOL := Lib.hid hOl
    have HOWN := Lib.hid hown
    clear hval hb hOl
    by_cases hlt : i < L.length
    · obtain ⟨gx, cap', he, hbg, hgl, _, _⟩ := own_some HO.out (by omega)
      obtain ⟨rfl, rfl⟩ : ao = some ⟨gx, 0, none⟩ ∧ cap = cap' := by simp at he; exact ⟨he.1, he.2⟩
      have hL1 : (L[i]'hlt).toNat ≤ 1 := H01.out _ (List.getElem_mem _)
      have hcx : w.cell? ⟨gx, i, none⟩ = some (.int .u8 ((L[i]'hlt).toNat : Int)) := by rw [HO.out.cellAt i (by omega)]; simp [bys, List.getElem?_eq_getElem hlt]
      have hcx2 := (HB.out.cell (p := ⟨gx, i, none⟩) hgl).trans hcx
      obtain ⟨r, hr⟩ : ∃ r : Nat, (i : Int) % 8 = (r : Int) := ⟨i % 8, by simp⟩
      obtain ⟨b, hb⟩ : ∃ b : Nat, (i : Int) / 8 = (b : Int) := ⟨i / 8, by simp⟩
      have hr2 : r = i % 8 := by omega
      have hb2 : b = i / 8 := by omega
      have hr8 : r < 8 := by omega
      have hbK : b < K := by omega
      have hbO : b < O.length := by rw [HOL.out]; exact hbK
      have hco : wr.cell? ⟨w.heap.size, b, none⟩ = some (.int .u8 ((O[b]'hbO).toNat : Int)) := by rw [hown.cellAt b (by omega)]; simp [bys, List.getElem?_eq_getElem hbO]
      have hfo := hown.frozenAt b
      have HR := Lib.hid hr2
      have HBB := Lib.hid hb2
      clear he hr2 hb2 hcx hc0 hown
      go_wp2_with fail
      have q5 : IntKind.i64.wrap ((i : Int) / 8) = (b : Int) := by rw [IntWalk.i64_in _ (by omega)]; exact hb
      have q13 : IntKind.i64.wrap (b : Int) = (b : Int) := IntWalk.i64_in _ (by omega)
      have q6 : (0 : Int) ≤ (b : Int) := by omega
      have q7 : (b : Int) < (K : Int) := by omega
      have q1 : (0 : Int) ≤ (i : Int) := by omega
      have q2 : (i : Int) < (L.length : Int) := by omega
      have q8 : (i : Int).tmod 8 = (r : Int) := by rw [Int.tmod_eq_emod_of_nonneg (by omega)]; exact hr
      have q9 : (0 : Int) ≤ 7 - (r : Int) := by omega
      have q10 : IntKind.i64.wrap (7 - (r : Int)) = 7 - (r : Int) := IntWalk.i64_in _ (by omega)
      have q11 : IntKind.u64.wrap (7 - (r : Int)) = 7 - (r : Int) := by rw [IntKind.wrap_u64]; omega
      have q12 : min (7 - r) 8 = 7 - r := by omega
      go_still_tail 19, (by kernel_rfl)
      go_wp2_with fail
      have hbe : b = i / 8 := HBB.out
      have hre : r = i % 8 := HR.out
      subst hbe hre
      obtain ⟨s1, s2⟩ := set_bit (l := O) (i := i) (X := bitV (L.take i)) (b := (L[i]'hlt).toNat) (by rw [HOL.out]; omega) (by rw [HOL.out]; exact HV.out) hL1 hbO
      have hbyte : bits .or .u8 ((O[i / 8]'hbO).toNat : Int) (((L[i]'hlt).toNat : Int) * 2 ^ (7 - i % 8) % 256) = ((UInt8.ofNat ((O[i / 8]'hbO).toNat ||| (L[i]'hlt).toNat * 2 ^ (7 - i % 8))).toNat : Int) := by
        have hp : 2 ^ (7 - i % 8) ≤ 2 ^ 7 := Nat.pow_le_pow_right (by omega) (by omega)
        have h1 : (L[i]'hlt).toNat * 2 ^ (7 - i % 8) ≤ 1 * 2 ^ 7 := Nat.mul_le_mul hL1 hp
        have e1 : ((L[i]'hlt).toNat : Int) * 2 ^ (7 - i % 8) % 256 = (((L[i]'hlt).toNat * 2 ^ (7 - i % 8) : Nat) : Int) := by
          have e2 : ((L[i]'hlt).toNat : Int) * 2 ^ (7 - i % 8) = (((L[i]'hlt).toNat * 2 ^ (7 - i % 8) : Nat) : Int) := by simp
          rw [e2]; omega
        rw [e1, u8_or_nat _ _ (O[i / 8]'hbO).toNat_lt (by omega), ofNat_toNat s1]
      rw [hbyte]
      have hst := (HOWN.out.stored (i / 8) (.int .u8 ((UInt8.ofNat ((O[i / 8]'hbO).toNat ||| (L[i]'hlt).toNat * 2 ^ (7 - i % 8))).toNat : Int)))
      have hset : (bys O).set (i / 8) (.int .u8 ((UInt8.ofNat ((O[i / 8]'hbO).toNat ||| (L[i]'hlt).toNat * 2 ^ (7 - i % 8))).toNat : Int)) = bys (O.set (i / 8) (UInt8.ofNat ((O[i / 8]'hbO).toNat ||| (L[i]'hlt).toNat * 2 ^ (7 - i % 8)))) := by simp [bys, List.map_set]
      rw [hset] at hst
      refine ⟨⟨i + 1, _, by omega, by simp, by rw [List.length_set]; exact HOL.out, hst.1.drew, ?_, ?_⟩, by simp [intOf]; omega⟩
      · rw [s2, HOL.out, bitV_take L i hlt]
      · exact ((HB.out.grown hst.2 HB.out.size (fun k hk => by have : w.heap.size = k := by simpa using hk
                                                               omega))).drew
    · obtain rfl : i = L.length := by omega
      have hcv := run_conv_own (P := Tryd.prog) (src := 59) (dst := 9) Tryd.underlying59 Tryd.underlying5 Tryd.underlying9 hown
      have hE : Hid (O = packB L.length (bitV L)) := Lib.hid (by
        rw [packB, HK.out]
        have h1 := HV.out
        rw [List.take_length] at h1
        rw [← h1, ← HOL.out, beBytes_val])
      go_wp2_with fail
      go_ret
      exact ⟨by rw [← hE.out]; rfl, HB.out⟩
end Go.Proofs.YtihoemimiplhfaaDoor
