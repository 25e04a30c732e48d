/-
  hyglaw5.BitsBack: for every list of numbers and counts the law returns true.
-/
import Derived.Test.YtbhppchdoalahaaDoorFirst5
import Derived.Test.YtbhppchdoalahaaDoorBitsAt
import Derived.Test.YtbhppchdoalahaaDoorBackMath
import Derived.Test.YtbhppchdoalahaaDoorErrOne
import Derived.Test.YtbhppchdoalahaaDoorOpsArg
import Derived.StillTailTactics
namespace Go.Proofs.YtbhppchdoalahaaDoor
open Go.RowKit

theorem wat_upd {S : Nat → Prop} {w w' : World} {p n V : Nat} {v : Value} {l : List UInt8} (hU : Upd S w w') (h : WAt w p v n V l) (hp : ¬ S p) (hv : ∀ k, v.ownBlock = some k → ¬ S k) : WAt w' p v n V l :=
  ⟨(hU.block p (row_lt h.1) hp).trans h.1, hU.own h.2.1 hv, h.2.2⟩
theorem isErr_new {w : World} {a : Nat} {n c : Int} (h : w.heap[a]? = some (.cells #[.int .i64 n, .iface 30 (.int .i64 c)] 102 (0, 0))) : isErr w [(true, n)] (.iface 98 (.pointer (some ⟨a, 0, none⟩))) (codeV c) :=
  ⟨rfl, a, codeV c, rfl, row_lt h, h, rfl⟩
set_option maxRecDepth 1000000 in
set_option maxHeartbeats 8000000 in
theorem bback_walk (ao : Option Addr) (cap : Nat) (l : List (Int × Int)) (w : World) (hi : Ops w ao l) (h0 : ∀ x ∈ l, 0 ≤ x.1 ∧ x.1 < 18446744073709551616) (hl : l.length ≤ 300) (hg : Glob w) :
    Calls Tryd.prog 9 #[.slice ao l.length cap] w fun e w' => e = .returned (.bool true) ∧ Below w.heap.size w w' := by
  have HG := Lib.hid hg
  have HI := Lib.hid hi
  have H0 := Lib.hid h0
  have hd : decide (300 < (l.length : Int)) = false := by simp; omega
  clear hg hi h0
  obtain ⟨L, HL⟩ : ∃ L, Hid (L = l.map natOp) := ⟨_, Lib.hid rfl⟩
  go_enter Tryd.func9, Tryd.ntmps9
  go_wp2_with fail
  refine (first5 w).mono ?_; rintro e w1 ⟨rfl, hb1⟩
  have HW := Lib.hid (wat_new w1)
  have HB1 := Lib.hid hb1
  have hsz := hb1.size
  clear hb1
  go_wp2_with fail
  go_loopw [4, 5] (fun n i wr => ∃ (j : Nat) (v : Value) (b : List UInt8), j ≤ l.length ∧ i = .int .i64 (j : Int) ∧ n = .int .i64 (catN (L.take j) : Nat) ∧ (∀ x ∈ l.take j, okOp x) ∧ WAt wr w1.heap.size v (catN (L.take j)) (catV (L.take j)) b ∧ Below w.heap.size w wr) (fun _ i _ => l.length - (intOf i).toNat)
  case atStart => exact ⟨0, _, [], by omega, rfl, rfl, by simp, HW.out, HB1.out.alloc hsz _⟩
  case round =>
    obtain ⟨j, v, b, hj, rfl, rfl, hok, hw, hbr⟩ := hrel
    have HOK := Lib.hid hok
    have HWR := Lib.hid hw
    have HBR := Lib.hid hbr
    have hbrs := hbr.size
    clear hok hw hbr
    by_cases hlt : j < l.length
    · obtain ⟨ab, off, x, HX, rfl, hbl, k0, k1⟩ := HI.out.at hlt
      have hc0 := (HBR.out.cell (p := ⟨ab, off + j * 2, none⟩) hbl).trans k0
      have hc1 := (HBR.out.cell (p := ⟨ab, off + j * 2 + 1, none⟩) hbl).trans k1
      have K1 := Lib.hid k1
      clear k0 k1
      have hx0 := H0.out x (by rw [HX.out]; exact List.getElem_mem _)
      obtain ⟨N, c⟩ := x
      obtain ⟨N, rfl⟩ := Int.eq_ofNat_of_zero_le hx0.1
      have HN := Lib.hid hx0.2
      clear hx0
      by_cases hv : okOp ((N : Int), c)
      · obtain ⟨_, hcc, hc64, hNc⟩ := hv
        obtain ⟨c, rfl⟩ := Int.eq_ofNat_of_zero_le hcc
        have HNC : Hid (N < 2 ^ c) := Lib.hid (by
          have : (N : Int) < ((2 ^ c : Nat) : Int) := by simpa using hNc
          omega)
        have d1 : decide ((c : Int) < 0) = false := by simp
        have d2 : decide (64 < (c : Int)) = false := by simp; omega
        have q1 : (0 : Int) ≤ (j : Int) := by omega
        have q2 : (j : Int) < (l.length : Int) := by omega
        have d4 : (N : Int) / 2 ^ c = 0 := by
          have e : (N : Int) / 2 ^ c = ((N / 2 ^ c : Nat) : Int) := by simp
          rw [e, Nat.div_eq_of_lt HNC.out]; rfl
        have q3 : (0 : Int) ≤ (c : Int) := by omega
        have q4 : IntKind.u64.wrap (c : Int) = (c : Int) := by rw [IntKind.wrap_u64]; omega
        have q5 : min c 64 = c := by omega
        rcases (by omega : c < 64 ∨ c = 64) with hc | hc
        · have d3 : decide ((c : Int) < 64) = true := by simp; omega
          clear hc hNc hcc
          go_wp2_with fail
          go_quiet (fail)
          clear q5
          go_wp2_with fail
          generalize hwq : World.drewN wr _ = wq
          have hc0 : wq.cell? ⟨ab, off + j * 2, none⟩ = some (.int .u64 (N : Int)) := by rw [← hwq]; simpa using hc0
          have hc1 : wq.cell? ⟨ab, off + j * 2 + 1, none⟩ = some (.int .i64 (c : Int)) := by rw [← hwq]; simpa using hc1
          have HQ := Lib.hid hwq
          clear hwq
          go_still_tail 11, (by kernel_rfl)
          go_wp2_with fail
          have hU0 : Upd (fun _ => False) wr wq.drew := by rw [← HQ.out]; exact (Upd.drewN _ _ _).trans (Upd.drew _ _)
          have hn1 := catN_bound (L.take j) (by rw [HL.out, ← List.map_take]; exact natOp_le HOK.out)
          have hn2 : (L.take j).length ≤ 300 := by simp; omega
          refine (bput_ok _ v _ _ N c b _ (wat_upd hU0 HWR.out (fun h => h) (fun _ _ h => h)) (by omega) HNC (by omega)).mono ?_; rintro e w5 ⟨v5, b5, rfl, p1, p2, _⟩
          have HB5 : Hid (Below w.heap.size w w5) := Lib.hid (by
            have hwr := HWR.out.2.1
            refine HBR.out.trans ((hU0.below hbrs (fun _ _ h => h.elim)).trans (p2.below (Nat.le_trans hbrs hU0.size) fun k _ hk => ?_))
            rcases hk with rfl | hk
            · exact hsz
            · have := (hwr.lt k hk).1; omega)
          have HW5 := Lib.hid p1
          have hc5 : w5.cell? ⟨ab, off + j * 2 + 1, none⟩ = some (.int .i64 (c : Int)) := (HB5.out.cell (p := ⟨ab, off + j * 2 + 1, none⟩) hbl).trans K1.out
          have hcb : (catN (L.take j) : Int) ≤ 19200 := by omega
          clear p1 p2 hU0 hc0 hc1
          go_wp2_with fail
          have hjl : j < L.length := by rw [HL.out]; simpa using hlt
          have hLj : L[j] = (N, c) := by simp [HL.out, ← HX.out, natOp]
          have e1 : L.take (j + 1) = L.take j ++ [(N, c)] := by rw [List.take_succ_eq_append_getElem hjl, hLj]
          refine ⟨⟨j + 1, v5, b5, by omega, by simp, by rw [e1, catN_snoc]; simp, ?_, ?_, HB5.out⟩, by simp [intOf]; omega⟩
          · intro x hx
            rw [List.take_succ_eq_append_getElem hlt] at hx
            rcases List.mem_append.1 hx with hx | hx
            · exact HOK.out x hx
            · rw [List.mem_singleton.1 hx, ← HX.out]
              exact ⟨by omega, by omega, by omega, by
                have := HNC.out
                show (N : Int) < 2 ^ ((c : Int).toNat)
                have e2 : (2 : Int) ^ ((c : Int).toNat) = ((2 ^ c : Nat) : Int) := by simp
                rw [e2]; omega⟩
          · rw [e1, catN_snoc, catV_snoc]; exact HW5.out
        · have d3 : decide ((c : Int) < 64) = false := by simp; omega
          clear hc hNc hcc d4 q4
          go_wp2_with fail
          go_quiet (fail)
          clear q5
          go_wp2_with fail
          generalize hwq : World.drewN wr _ = wq
          have hc0 : wq.cell? ⟨ab, off + j * 2, none⟩ = some (.int .u64 (N : Int)) := by rw [← hwq]; simpa using hc0
          have hc1 : wq.cell? ⟨ab, off + j * 2 + 1, none⟩ = some (.int .i64 (c : Int)) := by rw [← hwq]; simpa using hc1
          have HQ := Lib.hid hwq
          clear hwq
          go_still_tail 11, (by kernel_rfl)
          go_wp2_with fail
          have hU0 : Upd (fun _ => False) wr wq.drew := by rw [← HQ.out]; exact (Upd.drewN _ _ _).trans (Upd.drew _ _)
          have hn1 := catN_bound (L.take j) (by rw [HL.out, ← List.map_take]; exact natOp_le HOK.out)
          have hn2 : (L.take j).length ≤ 300 := by simp; omega
          refine (bput_ok _ v _ _ N c b _ (wat_upd hU0 HWR.out (fun h => h) (fun _ _ h => h)) (by omega) HNC (by omega)).mono ?_; rintro e w5 ⟨v5, b5, rfl, p1, p2, _⟩
          have HB5 : Hid (Below w.heap.size w w5) := Lib.hid (by
            have hwr := HWR.out.2.1
            refine HBR.out.trans ((hU0.below hbrs (fun _ _ h => h.elim)).trans (p2.below (Nat.le_trans hbrs hU0.size) fun k _ hk => ?_))
            rcases hk with rfl | hk
            · exact hsz
            · have := (hwr.lt k hk).1; omega)
          have HW5 := Lib.hid p1
          have hc5 : w5.cell? ⟨ab, off + j * 2 + 1, none⟩ = some (.int .i64 (c : Int)) := (HB5.out.cell (p := ⟨ab, off + j * 2 + 1, none⟩) hbl).trans K1.out
          have hcb : (catN (L.take j) : Int) ≤ 19200 := by omega
          clear p1 p2 hU0 hc0 hc1
          go_wp2_with fail
          have hjl : j < L.length := by rw [HL.out]; simpa using hlt
          have hLj : L[j] = (N, c) := by simp [HL.out, ← HX.out, natOp]
          have e1 : L.take (j + 1) = L.take j ++ [(N, c)] := by rw [List.take_succ_eq_append_getElem hjl, hLj]
          refine ⟨⟨j + 1, v5, b5, by omega, by simp, by rw [e1, catN_snoc]; simp, ?_, ?_, HB5.out⟩, by simp [intOf]; omega⟩
          · intro x hx
            rw [List.take_succ_eq_append_getElem hlt] at hx
            rcases List.mem_append.1 hx with hx | hx
            · exact HOK.out x hx
            · rw [List.mem_singleton.1 hx, ← HX.out]
              exact ⟨by omega, by omega, by omega, by
                have := HNC.out
                show (N : Int) < 2 ^ ((c : Int).toNat)
                have e2 : (2 : Int) ^ ((c : Int).toNat) = ((2 ^ c : Nat) : Int) := by simp
                rw [e2]; omega⟩
          · rw [e1, catN_snoc, catV_snoc]; exact HW5.out
      · have q1 : (0 : Int) ≤ (j : Int) := by omega
        have q2 : (j : Int) < (l.length : Int) := by omega
        by_cases hneg : c < 0
        · have d1 : decide (c < 0) = true := by simpa using hneg
          clear hv hneg
          go_wp2_with fail
          go_quiet (fail)
          go_wp2_with fail
          refine (first5 _).mono ?_; rintro e w6 ⟨rfl, hb6⟩
          have HB6 := Lib.hid (HBR.out.trans ((below_trans0 (below_drewN wr nq) hb6).mono hbrs))
          clear hb6
          go_wp2
          go_ret
          exact ⟨rfl, HB6.out⟩
        · obtain ⟨c, rfl⟩ := Int.eq_ofNat_of_zero_le (show 0 ≤ c by omega)
          have d1 : decide ((c : Int) < 0) = false := by simp
          by_cases hbig : 64 < c
          · have d2 : decide (64 < (c : Int)) = true := by simp; omega
            clear hv hneg
            go_wp2_with fail
            go_quiet (fail)
            go_wp2_with fail
            refine (first5 _).mono ?_; rintro e w6 ⟨rfl, hb6⟩
            have HB6 := Lib.hid (HBR.out.trans ((below_trans0 (below_drewN wr nq) hb6).mono hbrs))
            clear hb6
            go_wp2
            go_ret
            exact ⟨rfl, HB6.out⟩
          · have d2 : decide (64 < (c : Int)) = false := by simp; omega
            have hle : 2 ^ c ≤ N := by
              rcases Nat.lt_or_ge N (2 ^ c) with hh | hh
              · exfalso
                apply hv
                refine ⟨by omega, by omega, by omega, ?_⟩
                show (N : Int) < 2 ^ ((c : Int).toNat)
                have e2 : (2 : Int) ^ ((c : Int).toNat) = ((2 ^ c : Nat) : Int) := by simp
                rw [e2]; omega
              · exact hh
            have hc64 : c < 64 := by
              rcases Nat.lt_or_ge c 64 with hh | hh
              · exact hh
              · exfalso
                obtain rfl : c = 64 := by omega
                have := HN.out
                omega
            have d3 : decide ((c : Int) < 64) = true := by simp; omega
            obtain ⟨z, hz⟩ : ∃ z : Nat, N / 2 ^ c = z := ⟨_, rfl⟩
            have hz1 : 1 ≤ z := by rw [← hz]; exact Nat.div_pos hle (Nat.pow_pos (by omega))
            have d4 : (N : Int) / 2 ^ c = (z : Int) := by rw [← hz]; simp
            have d5 : decide ((0 : Int) < (z : Int)) = true := by simp; omega
            have d6 : decide (0 < z) = true := by simp; omega
            have d7 : 0 < z := by omega
            have q3 : (0 : Int) ≤ (c : Int) := by omega
            have q4 : IntKind.u64.wrap (c : Int) = (c : Int) := by rw [IntKind.wrap_u64]; omega
            have q5 : min c 64 = c := by omega
            clear hv hneg hle hz hbig
            go_wp2_with fail
            go_quiet (fail)
            go_wp2_with fail
            refine (first5 _).mono ?_; rintro e w6 ⟨rfl, hb6⟩
            have HB6 := Lib.hid (HBR.out.trans ((below_trans0 (below_drewN wr nq) hb6).mono hbrs))
            clear hb6
            go_wp2
            go_ret
            exact ⟨rfl, HB6.out⟩
    · obtain rfl : j = l.length := by omega
      have hLl : L.length = l.length := by rw [HL.out]; simp
      have hok : ∀ x ∈ l, okOp x := by have := HOK.out; rwa [List.take_length] at this
      have hlt2 : ∀ x ∈ L, x.1 < 2 ^ x.2 := by rw [HL.out]; exact natOp_lt hok
      have hbd := catN_bound L (by rw [HL.out]; exact natOp_le hok)
      rw [hLl] at hbd
      have hw := HWR.out
      rw [show L.take l.length = L from by rw [← hLl, List.take_length]] at hw ⊢
      have hb := wb_packB hw.2.2.1 hw.2.2.2
      have hV := catV_lt L hlt2
      have HV := Lib.hid hV
      obtain ⟨n, hn⟩ : ∃ n, n = catN L := ⟨_, rfl⟩
      rw [← hn] at hw hb hV hbd ⊢
      have HN := Lib.hid hn
      have HLT := Lib.hid hlt2
      have hbl : b.length = (n + 7) / 8 := by rw [hb]; exact packB_length _ _
      have HWB := Lib.hid hw
      have HBB := Lib.hid hb
      have HLL := Lib.hid hLl
      have HBL := Lib.hid hbl
      have hn2 : n ≤ 19200 := by omega
      have hb1 : b.length ≤ 2401 := by omega
      clear hLl hok hlt2 hw hb hV hn hbl hbd HWR
      go_wp2_with fail
      refine (bstr_any _ _ _ _ _ wr HWB.out).mono ?_; rintro e w2 ⟨rfl, rfl⟩
      go_wp2_with fail
      refine (newr_any _ wr).mono ?_; rintro e w2 ⟨rfl, hw2⟩
      have HR : Hid (RAt w2 wr.heap.size ⟨b.toArray⟩ 0) := Lib.hid (by rw [hw2]; exact rat_new _ _)
      have hbw : Below wr.heap.size wr w2 := by rw [hw2]; exact (Below.refl _ _).alloc (Nat.le_refl _) _
      have HB2 := Lib.hid (HBR.out.trans (hbw.mono hbrs))
      have HW2 := Lib.hid (wat_upd (Upd.of_new (S := fun _ => False) hbw) HWB.out (fun h => h) (fun _ _ h => h))
      clear hw2 hbw
      have hsz2 : (⟨b.toArray⟩ : ByteArray).size = b.length := ba_size b
      have t1 : ((n : Int) != (n : Int)) = false := by simp
      have t2 : ((b.length : Int) != ((n : Int) + 7) / 8) = false := by have := HBL.out; simp; omega
      go_wp2_with fail
      refine (blen_any _ _ _ _ _ w2 HW2.out).mono ?_; rintro e w3 ⟨rfl, rfl⟩
      go_wp2_with fail
      clear t1 t2
      obtain ⟨wo, rfl⟩ : ∃ wo : World, wo = wr := ⟨_, rfl⟩
      go_loopw [8] (fun i wr => ∃ j : Nat, j ≤ l.length ∧ i = .int .i64 (j : Int) ∧ RAt wr wo.heap.size ⟨b.toArray⟩ (catN (L.take j)) ∧ Below w.heap.size w wr) (fun i _ => l.length - (intOf i).toNat)
      case atStart => exact ⟨0, by omega, rfl, HR.out, HB2.out⟩
      case round =>
        obtain ⟨j, hj2, rfl, hr, hbz⟩ := hrel
        have HRZ := Lib.hid hr
        have HBZ := Lib.hid hbz
        have hbzs := hbz.size
        clear hr hbz
        by_cases hlt2 : j < l.length
        · obtain ⟨ab, off, x, HX, rfl, hbl, k0, k1⟩ := HI.out.at hlt2
          have hc0 := (HBZ.out.cell (p := ⟨ab, off + j * 2, none⟩) hbl).trans k0
          have hc1 := (HBZ.out.cell (p := ⟨ab, off + j * 2 + 1, none⟩) hbl).trans k1
          have K0 := Lib.hid k0
          have hok : okOp x := by
            have := HOK.out
            rw [List.take_length] at this
            exact this x (by rw [HX.out]; exact List.getElem_mem _)
          obtain ⟨N, c⟩ := x
          obtain ⟨o1, o2, o3, _⟩ := hok
          obtain ⟨N, rfl⟩ := Int.eq_ofNat_of_zero_le o1
          obtain ⟨c, rfl⟩ := Int.eq_ofNat_of_zero_le o2
          have hjl : j < L.length := by rw [HL.out]; simpa using hlt2
          have hLj : L[j] = (N, c) := by simp [HL.out, ← HX.out, natOp]
          have e1 : catN (L.take (j + 1)) = catN (L.take j) + c := by rw [List.take_succ_eq_append_getElem hjl, hLj, catN_snoc]
          have e2 := catN_take_le L (j + 1)
          have e3 : catN (L.take j) + c ≤ n := by rw [HN.out]; omega
          have e4 : getB (⟨b.toArray⟩ : ByteArray).data.toList (catN (L.take j)) c = N := by
            have := getB_cat HLT.out hjl
            rw [hLj, ← HN.out, ← HBB.out] at this
            simpa using this
          have E1 := Lib.hid e1
          have E4 := Lib.hid e4
          have hbl2 := HBL.out
          have hc64 : c ≤ 64 := by omega
          have g1 : ¬ (((c : Int) < 0) ∨ 64 < (c : Int)) := by omega
          have g2 : ¬ (8 * ((⟨b.toArray⟩ : ByteArray).size : Int) - (catN (L.take j) : Nat) < (c : Int)) := by rw [hsz2]; omega
          have G1 := Lib.hid g1
          have G2 := Lib.hid (Int.not_lt.1 g2)
          clear k0 k1 e1 e2 e4 hjl hLj g1 g2 hbl2
          go_wp2_with fail
          refine (bget_any _ ⟨b.toArray⟩ (catN (L.take j)) (c : Int) wr HRZ.out (by rw [hsz2]; omega) (by rw [hsz2]; have := HBL.out; omega)).mono ?_; intro e w4 hp
          rw [BGet, if_neg G1.out, if_neg (Int.not_lt.2 G2.out)] at hp
          obtain ⟨rfl, p1, p2⟩ := hp
          rw [Int.toNat_natCast, E4.out]
          rw [Int.toNat_natCast, ← E1.out] at p1
          have P1 := Lib.hid p1
          have HB4 : Hid (Below w.heap.size w w4) := Lib.hid (HBZ.out.trans (p2.below hbzs (fun k _ hk => by omega)))
          have hc5 : w4.cell? ⟨ab, off + j * 2, none⟩ = some (.int .u64 (N : Int)) := (HB4.out.cell (p := ⟨ab, off + j * 2, none⟩) hbl).trans K0.out
          clear p1 p2 hc0 hc1
          go_wp2_with fail
          exact ⟨⟨j + 1, by omega, by simp, P1.out, HB4.out⟩, by simp [intOf]; omega⟩
        · obtain rfl : j = l.length := by omega
          have hrz := HRZ.out
          rw [show L.take l.length = L from by rw [← HLL.out, List.take_length], ← HN.out] at hrz
          have HRZ2 := Lib.hid hrz
          clear hrz HRZ
          have hbl2 := HBL.out
          have HBL2 := Lib.hid hbl2
          have g3 : ¬ (8 ≤ 8 * (⟨b.toArray⟩ : ByteArray).size - n) := by rw [hsz2]; omega
          have g4 : getB (⟨b.toArray⟩ : ByteArray).data.toList n (8 * (⟨b.toArray⟩ : ByteArray).size - n) = 0 := by
            rw [hsz2, hbl2]
            have := HV.out
            rw [← HN.out] at this
            have := getB_rest this
            rw [← HBB.out] at this
            simpa using this
          have g5 : 8 * ((⟨b.toArray⟩ : ByteArray).size : Int) - (n : Int) < 8 := by rw [hsz2]; omega
          have G3 := Lib.hid (Nat.not_le.1 g3)
          have G4 := Lib.hid g4
          have G5 := Lib.hid g5
          clear g3 g4 g5 hbl2
          go_wp2_with fail
          refine (rat_any _ ⟨b.toArray⟩ n wr HRZ2.out).mono ?_; rintro e w5 ⟨rfl, rfl⟩
          go_wp2_with fail
          refine (bend_any _ ⟨b.toArray⟩ n wr HRZ2.out (by rw [hsz2]; omega) (by rw [hsz2]; have := HBL2.out; omega)).mono ?_; intro e w5 hp
          rw [BEnd, if_neg (Nat.not_le.2 G3.out), if_neg (by rw [G4.out]; simp)] at hp
          obtain ⟨rfl, hb5⟩ := hp
          have HR5 : Hid (RAt w5 wo.heap.size ⟨b.toArray⟩ n) := Lib.hid ((hb5.block _ (row_lt HRZ2.out)).trans HRZ2.out)
          have HB5 := Lib.hid (HBZ.out.trans (hb5.mono hbzs))
          clear hb5
          go_wp2_with fail
          refine (bget_any _ ⟨b.toArray⟩ n 8 w5 HR5.out (by rw [hsz2]; omega) (by rw [hsz2]; have := HBL2.out; omega)).mono ?_; intro e w6 hp
          rw [BGet, if_neg (by decide), if_pos G5.out] at hp
          obtain ⟨ve, rfl, he⟩ := hp
          have HB6 := Lib.hid (HB5.out.trans (he.2.mono HB5.out.size))
          have HR6 : Hid (RAt w6 wo.heap.size ⟨b.toArray⟩ n) := Lib.hid ((he.2.block _ (row_lt HR5.out)).trans HR5.out)
          obtain ⟨⟨a, ha, rfl, hblk⟩, _⟩ := he
          have hE := isErr_new hblk
          have HE := Lib.hid hE
          clear hE hblk
          go_wp2_with fail
          refine (first5 w6).mono ?_; rintro e w7 ⟨rfl, hb7⟩
          have HB7 := Lib.hid (HB6.out.trans (hb7.mono HB6.out.size))
          have HR7 : Hid (RAt w7 wo.heap.size ⟨b.toArray⟩ n) := Lib.hid ((hb7.block _ (row_lt HR6.out)).trans HR6.out)
          have HE7 := Lib.hid (isErr_below hb7 HE.out)
          clear hb7
          go_wp2_with fail
          refine (code_any _ _ _ w7 HE7.out (root_code _) (HG.out.below HB7.out)).mono ?_; rintro e w8 ⟨rfl, hb8⟩
          have HB8 := Lib.hid (HB7.out.trans (hb8.mono HB7.out.size))
          have HR8 : Hid (RAt w8 wo.heap.size ⟨b.toArray⟩ n) := Lib.hid ((hb8.block _ (row_lt HR7.out)).trans HR7.out)
          rw [show codeOf (codeV 1) = 1 from rfl]
          clear hb8
          go_wp2_with fail
          refine (rat_any _ ⟨b.toArray⟩ n w8 HR8.out).mono ?_; rintro e w9 ⟨rfl, rfl⟩
          go_wp2
          go_ret
          exact ⟨rfl, HB8.out⟩

set_option maxRecDepth 1000000 in
theorem bback_long (ao : Option Addr) (cap len : Nat) (w : World) (hl : 300 < len) :
    Calls Tryd.prog 9 #[.slice ao len cap] w fun e w' => e = .returned (.bool true) ∧ Below w.heap.size w w' := by
  go_enter Tryd.func9, Tryd.ntmps9
  go_wp2_with fail
  refine (first5 w).mono ?_; rintro e w1 ⟨rfl, hb1⟩
  go_wp2_with fail
  refine (first5 w1).mono ?_; rintro e w2 ⟨rfl, hb2⟩
  go_wp2
  go_ret
  exact ⟨rfl, below_trans0 hb1 hb2⟩
end Go.Proofs.YtbhppchdoalahaaDoor
