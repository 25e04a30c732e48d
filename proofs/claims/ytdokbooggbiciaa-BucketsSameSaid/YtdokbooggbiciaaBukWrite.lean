/-
  exph.MarshalBuckets, MayBuckets.
-/
import Derived.Test.YtdokbooggbiciaaBukRead
import Derived.Test.YtdokbooggbiciaaMsgWrite
namespace Go.Proofs.Ytdokbooggbiciaa
open Go.RowKit

/-- may a side be, with unknown bytes u, at a depth? -/
def bmay (u : List UInt8) (d : Int) : Bool := decide (0 ≤ d) && munkOk btk u d
/-- a side's known records, as texts -/
def bparts (x : Bk) : List (List UInt8) := wvarP 1 (zig x.off).toNat ++ wbytesP 2 (x.cs.flatMap vput)
def bput (x : Bk) (u : List UInt8) : List UInt8 := (bparts x ++ [u]).flatten
def MBPost (x : Bk) (u : List UInt8) (d : Int) (w : World) (e : Ending) (w' : World) : Prop :=
  Below w.heap.size w w' ∧ ((bmay u d = true ∧ e = .returned (.tuple #[.string ⟨(bput x u).toArray⟩, .nilIface])) ∨ (bmay u d = false ∧ ∃ v, e = .returned (.tuple #[.string ⟨#[]⟩, v]) ∧ EC w' v 8))
theorem zig_nat {n : Int} (h1 : -2147483648 ≤ n) (h2 : n ≤ 2147483647) : zig n = ((zig n).toNat : Int) ∧ (zig n).toNat < 4294967296 := by
  unfold zig
  split <;> omega
set_option maxRecDepth 1000000 in
set_option maxHeartbeats 8000000 in
theorem mb_any (x : Bk) (u : List UInt8) (ao : Option Addr) (cap : Nat) (X : ByteArray) (d : Int) (w : World) (hx : Hid (BkOk x)) (hN : Hid (Nats .u64 w ao x.cs)) (hl : x.cs.length ≤ 100000) (hu : u.length ≤ 1000000) (hX : Hid (X = ⟨u.toArray⟩)) :
    Calls Try.prog 12 #[.agg #[.int .i32 x.off, .slice ao x.cs.length cap, .string X], .int .i64 d] w (MBPost x u d w) := by
  have hlo := hx.out.lo
  have hhi := hx.out.hi
  have HET := Lib.hid (enters_of Try.func26 (by kernel_rfl) rfl)
  obtain ⟨z, hz⟩ : ∃ z, (zig x.off).toNat = z := ⟨_, rfl⟩
  have hzz := zig_nat hlo hhi
  rw [hz] at hzz
  have HZ : Hid (zig x.off = (z : Int)) := Lib.hid hzz.1
  have hz9 : z < 18446744073709551616 := by have := hzz.2; omega
  have HZN := Lib.hid hz
  obtain ⟨T, hT⟩ : ∃ T, x.cs.flatMap vput = T := ⟨_, rfl⟩
  have hTl : T.length ≤ 1000000 := by rw [← hT]; have := vputs_le x.cs; omega
  have HT := Lib.hid hT
  have hvz := (vput_length z).2
  have htz := wtag_len ((1 : Nat) : Int) 0
  have htz1 := wtag_len 1 0
  have hp1 : (wvarP 1 z).length ≤ 1 ∧ (wvarP 1 z).flatten.length ≤ 20 := by
    by_cases h : z = 0
    · rw [h, wvarP_0]; simp
    · rw [wvarP_1 h]; refine ⟨by simp, ?_⟩
      simp only [List.flatten_cons, List.flatten_nil, List.append_nil]
      unfold wrec; split <;> simp <;> omega
  have htb := wtag_len ((2 : Nat) : Int) 2
  have htb1 := wtag_len 2 2
  have hp2 : (wbytesP 2 T).length ≤ 1 ∧ (wbytesP 2 T).flatten.length ≤ 1000020 := by
    unfold wbytesP
    split
    · simp
    · refine ⟨by simp, ?_⟩
      have := (vput_length T.length).2
      simp only [List.flatten_cons, List.flatten_nil, List.append_nil]
      unfold wrec; split <;> simp <;> omega
  have HP1 := Lib.hid hp1
  have HP2 := Lib.hid hp2
  obtain ⟨g, hgg⟩ : ∃ g, munkOk btk u d = g := ⟨_, rfl⟩
  have HG := Lib.hid hgg
  clear hz hzz hT hvz htz htb htz1 htb1 hp1 hp2 hgg
  obtain ⟨W0, hW0⟩ : ∃ W0, w.alloc (.cells #[.int .i32 x.off, .slice ao x.cs.length cap, .string X] 24) = W0 := ⟨_, rfl⟩
  have HBW0 : Hid (Below w.heap.size w W0) := Lib.hid (by rw [← hW0]; exact below_new _ _)
  have HRX : Hid (W0.heap[w.heap.size]? = some (.cells #[.int .i32 x.off, .slice ao x.cs.length cap, .string X] 24 (0, 0))) := Lib.hid (by rw [← hW0]; exact heap_alloc_new w _)
  have HW0 := Lib.hid hW0
  clear hW0
  go_enter Try.func12, Try.ntmps12
  go_wp2_with fail
  rw [HW0.out]
  refine (wmnew_any d W0).mono ?_; rintro e w1 ⟨rfl, hb1, P1, hw1, hp1⟩
  obtain ⟨p, hp⟩ : ∃ p, W0.heap.size = p := ⟨_, rfl⟩
  have hpp : w.heap.size < p := by rw [← hp]; exact row_lt HRX.out
  rw [hp] at hw1 hb1 ⊢
  have HPE := Lib.hid hp
  have HB1 : Hid (Below p W0 w1) := Lib.hid hb1
  have HR1 : Hid (w1.heap[w.heap.size]? = some (.cells #[.int .i32 x.off, .slice ao x.cs.length cap, .string X] 24 (0, 0))) := Lib.hid ((hb1.block _ hpp).trans HRX.out)
  have HW1 := Lib.hid hw1
  have HL1 : Hid (∀ k, P1 k → p ≤ k) := Lib.hid (fun k hk => by have := hp1 k hk; omega)
  have hx0 : w1.cell? ⟨w.heap.size, 0, none⟩ = some (.int .i32 x.off) := row_cell HR1.out (j := 0) rfl
  clear hb1 hw1 hp1 hp
  obtain ⟨b0, hb0⟩ : ∃ b0, decide (d < 0) = b0 := ⟨_, rfl⟩
  rw [hb0] at HW1
  have HB0 := Lib.hid hb0
  clear hb0
  go_wp2_with fail
  refine (zig32_any x.off _ hlo hhi).mono ?_; rintro e w' ⟨rfl, rfl⟩
  rw [HZ.out]
  go_wp2_with fail
  refine (wvar_any p d (.slice none 0 0) [] b0 P1 1 z _ HW1 hz9 (by omega) (by omega) (by simp) (by simp)).mono ?_; intro e w2 hpost
  obtain ⟨rfl, hu2, P2, hw2, hp2⟩ := hpost
  have HW2 := Lib.hid hw2
  have HL2 : Hid (∀ k, P2 k → p ≤ k) := Lib.hid (fun k hk => by
    rcases hp2 k hk with h | h
    · exact HL1.out k h
    · have := (wr_lt HW1.out p (by obtain ⟨_, _, _, _, _, rfl⟩ := HW1.out; exact .inl rfl)).2; omega)
  have HBB2 : Hid (Below p W0 w2) := Lib.hid (HB1.out.trans (hu2.below (by have := (wr_lt HW1.out p (by obtain ⟨_, _, _, _, _, rfl⟩ := HW1.out; exact .inl rfl)).2; omega) (fun k _ h => HL1.out k h)))
  have HR2 : Hid (w2.heap[w.heap.size]? = some (.cells #[.int .i32 x.off, .slice ao x.cs.length cap, .string X] 24 (0, 0))) := Lib.hid ((HBB2.out.block _ hpp).trans HRX.out)
  have hx1 : w2.cell? ⟨w.heap.size, 1, none⟩ = some (.slice ao x.cs.length cap) := row_cell HR2.out (j := 1) rfl
  have HN2 : Hid (Nats .u64 w2 ao x.cs) := Lib.hid (hN.out.below (HBW0.out.trans (HBB2.out.mono (Nat.le_of_lt hpp))))
  obtain ⟨q2, hq2⟩ : ∃ q2, wps b0 [] (wvarP 1 z) = q2 := ⟨_, rfl⟩
  have hq2l : q2.length ≤ 1 ∧ q2.flatten.length ≤ 20 := by
    rw [← hq2]
    cases b0 with
    | true => simp [wps]
    | false => simpa [wps] using HP1.out
  have HQ2 := Lib.hid hq2
  rw [hq2] at HW2
  have hq2a := hq2l.1
  have hq2b := hq2l.2
  clear hu2 hw2 hp2 hx0 hq2 hq2l
  go_wp2_with fail
  refine (wvars_any p d (.slice none 0 0) q2 b0 P2 2 ao cap x.cs _ HW2 HN2 (Lib.hid hx.out.each) (by omega) hl (by omega) (by omega) HT).mono ?_; intro e w3 hpost
  obtain ⟨rfl, hu3, P3, hw3, hp3⟩ := hpost
  have hpw2 : p < w2.heap.size := (wr_lt HW2.out p (by obtain ⟨_, _, _, _, _, rfl⟩ := HW2.out; exact .inl rfl)).2
  have HW3 := Lib.hid hw3
  have HL3 : Hid (∀ k, P3 k → p ≤ k) := Lib.hid (fun k hk => by
    rcases hp3 k hk with h | h
    · exact HL2.out k h
    · omega)
  have HBB3 : Hid (Below p W0 w3) := Lib.hid (HBB2.out.trans (hu3.below (by omega) (fun k _ h => HL2.out k h)))
  have HR3 : Hid (w3.heap[w.heap.size]? = some (.cells #[.int .i32 x.off, .slice ao x.cs.length cap, .string X] 24 (0, 0))) := Lib.hid ((HBB3.out.block _ hpp).trans HRX.out)
  have hx2 : w3.cell? ⟨w.heap.size, 2, none⟩ = some (.string X) := row_cell HR3.out (j := 2) rfl
  obtain ⟨q3, hq3⟩ : ∃ q3, wps b0 q2 (wbytesP 2 T) = q3 := ⟨_, rfl⟩
  have hq3l : q3.length ≤ 2 ∧ q3.flatten.length ≤ 1000040 := by
    rw [← hq3]
    have h8 := HP2.out
    cases b0 with
    | true => simp only [wps]; omega
    | false => simp only [wps, List.length_append, List.flatten_append]; omega
  have HQ3 := Lib.hid hq3
  rw [hq3] at HW3
  have hq3a := hq3l.1
  have hq3b := hq3l.2
  clear hu3 hw3 hp3 hx1 hq3 hq3l hpw2
  go_wp2_with fail
  refine (wrest_any p d (.slice none 0 0) q3 b0 P3 X u btk 26 _ HW3 hX hu (by omega) (by omega) HET.out takesB_any HG).mono ?_; intro e w4 hpost
  obtain ⟨rfl, hu4, P4, hw4, hp4⟩ := hpost
  have hpw3 : p < w3.heap.size := (wr_lt HW3.out p (by obtain ⟨_, _, _, _, _, rfl⟩ := HW3.out; exact .inl rfl)).2
  have HW4 := Lib.hid hw4
  have HBB4 : Hid (Below p W0 w4) := Lib.hid (HBB3.out.trans (hu4.below (by omega) (fun k _ h => HL3.out k h)))
  obtain ⟨b4, hb4⟩ : ∃ b4, (b0 || !g) = b4 := ⟨_, rfl⟩
  rw [hb4] at HW4
  obtain ⟨q4, hq4⟩ : ∃ q4, wps b4 q3 [u] = q4 := ⟨_, rfl⟩
  have hq4l : q4.length ≤ 3 ∧ q4.flatten.length ≤ 2000040 := by
    rw [← hq4]
    cases b4 with
    | true => simp only [wps]; omega
    | false => simp only [wps, List.length_append, List.flatten_append, List.flatten_cons, List.flatten_nil, List.length_cons, List.length_nil]; omega
  have HQ4 := Lib.hid hq4
  rw [hq4] at HW4
  have HB4 := Lib.hid hb4
  have hq4a := hq4l.1
  have hq4b := hq4l.2
  clear hu4 hw4 hp4 hx2 hb4 hq4 hq4l hpw3
  go_wp2_with fail
  refine (wend_any p d (.slice none 0 0) q4 b4 P4 _ HW4 (by omega) (by omega)).mono ?_; rintro e w5 ⟨hb5, hcase⟩
  have hpw4 : p < w4.heap.size := (wr_lt HW4.out p (by obtain ⟨_, _, _, _, _, rfl⟩ := HW4.out; exact .inl rfl)).2
  have HB5 : Hid (Below w.heap.size w w5) := Lib.hid ((HBW0.out.trans (HBB4.out.mono (Nat.le_of_lt hpp))).trans (hb5.mono (by omega)))
  have HMAY : Hid (bmay u d = !b4) := Lib.hid (by
    unfold bmay
    rw [HG.out, ← HB4.out, ← HB0.out]
    by_cases hd : d < 0
    · rw [decide_eq_true hd, decide_eq_false (by omega)]; rfl
    · rw [decide_eq_false hd, decide_eq_true (by omega)]; cases g <;> rfl)
  cases b4 with
  | true =>
    obtain ⟨v, rfl, hec⟩ : ∃ v, e = .returned (.tuple #[.string ⟨#[]⟩, v]) ∧ EC w5 v 8 := hcase
    obtain ⟨T', y, rfl⟩ := hec.iface
    have HEC := Lib.hid hec
    clear hec hb5 hpw4
    go_wp2_with fail
    go_ret2
    exact ⟨HB5.out, .inr ⟨by rw [HMAY.out]; rfl, _, rfl, HEC.out⟩⟩
  | false =>
    obtain rfl : e = .returned (.tuple #[.string ⟨q4.flatten.toArray⟩, .nilIface]) := hcase
    have hbg : b0 = false ∧ g = true := by
      have := HB4.out
      cases b0 <;> cases g <;> simp at this ⊢
    have HBP : Hid (q4.flatten = bput x u) := Lib.hid (by
      unfold bput bparts
      rw [← HQ4.out, ← HQ3.out, ← HQ2.out, hbg.1, HZN.out, HT.out]
      simp [wps])
    clear hb5 hpw4 hbg
    go_wp2_with fail
    go_ret2
    exact ⟨HB5.out, .inl ⟨by rw [HMAY.out]; rfl, by rw [HBP.out]; rfl⟩⟩
end Go.Proofs.Ytdokbooggbiciaa
