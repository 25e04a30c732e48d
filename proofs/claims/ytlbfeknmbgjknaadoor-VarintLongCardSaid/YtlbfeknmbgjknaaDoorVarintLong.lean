/-
  hyglaw2.VarintLong: for every number and every two counts the law returns true.
-/
import Derived.Test.YtlbfeknmbgjknaaDoorFirst2
import Derived.Test.YtlbfeknmbgjknaaDoorLongMath
import Derived.Test.YtlbfeknmbgjknaaDoorOwnF
import Derived.Test.YtlbfeknmbgjknaaDoorErrOne
namespace Go.Proofs.YtlbfeknmbgjknaaDoor
open Go.RowKit

set_option maxRecDepth 1000000 in
set_option maxHeartbeats 4000000 in
theorem long_out (n : Nat) (more cut : Int) (w : World) (hn : Hid (n < 2^64)) (h : more < 0 ∨ 10 - ((vput n).length : Int) < more ∨ cut < 0) :
    Calls Tryd.prog 7 #[.int .u64 n, .int .i64 more, .int .i64 cut] w fun e w' => e = .returned (.bool true) ∧ Below w.heap.size w w' := by
  have hl := vput_length n
  obtain ⟨L, HL⟩ : ∃ L, Hid (L = vput n) := ⟨_, Lib.hid rfl⟩
  have hL : L.length = (vput n).length := by rw [HL.out]
  have hl1 : 1 ≤ L.length := by omega
  have hl2 : L.length ≤ 10 := by omega
  rw [← HL.out] at h
  clear hl hL
  have hpn := Lib.hid (put_start hn.out)
  have hcv := fun (W : World) => Lib.run_convert_string_bytes (P := Tryd.prog) W 9 57 5 ⟨L.toArray⟩ Tryd.underlying9 Tryd.underlying57 Tryd.underlying5
  rw [ba_size] at hcv
  cases hd1 : decide (more < 0) <;> cases hd2 : decide (10 - (L.length : Int) < more) <;> cases hd3 : decide (cut < 0)
  · simp at hd1 hd2 hd3; omega
  all_goals
    clear h
    go_enter Tryd.func7, Tryd.ntmps7
    go_wp2_with fail
    refine (first2 w).mono ?_; rintro e w1 ⟨rfl, hb1⟩
    go_wp2_with fail
    refine (put_any n w1 hpn.out).mono ?_; rintro e w2 ⟨rfl, hb2⟩
    rw [← HL.out]
    go_wp2_with fail
    refine (first2 _).mono ?_; rintro e w3 ⟨rfl, hb3⟩
    go_wp2
    go_ret
    exact ⟨rfl, below_trans hb1 (below_trans hb2 (below_trans (bytesWorld_below w2 _ _) hb3))⟩

set_option maxRecDepth 1000000 in
set_option maxHeartbeats 4000000 in
theorem long_zero (n : Nat) (cut : Nat) (w : World) (hn : Hid (n < 2^64)) (hg : Glob w) (hcut : (cut : Int) ≤ 9223372036854775807) :
    Calls Tryd.prog 7 #[.int .u64 n, .int .i64 0, .int .i64 cut] w fun e w' => e = .returned (.bool true) ∧ Below w.heap.size w w' := by
  have HG := Lib.hid hg
  clear hg
  have hl := vput_length n
  obtain ⟨L, HL⟩ : ∃ L, Hid (L = vput n) := ⟨_, Lib.hid rfl⟩
  have hL : L.length = (vput n).length := by rw [HL.out]
  have hl1 : 1 ≤ L.length := by omega
  have hl2 : L.length ≤ 10 := by omega
  clear hl hL
  have hpn := Lib.hid (put_start hn.out)
  have hcv := fun (W : World) => Lib.run_convert_string_bytes (P := Tryd.prog) W 9 57 5 ⟨L.toArray⟩ Tryd.underlying9 Tryd.underlying57 Tryd.underlying5
  rw [ba_size] at hcv
  have hd2 : decide (10 - (L.length : Int) < 0) = false := by simp; omega
  have hd3 : decide ((cut : Int) < 0) = false := by simp
  go_enter Tryd.func7, Tryd.ntmps7
  go_wp2_with fail
  refine (first2 w).mono ?_; rintro e w1 ⟨rfl, hb1⟩
  go_wp2_with fail
  refine (put_any n w1 hpn.out).mono ?_; rintro e w2 ⟨rfl, hb2⟩
  rw [← HL.out]
  have HO : OwnF (Lib.bytesWorld w2 5 ⟨L.toArray⟩) w2.heap.size 1 (.slice (some ⟨w2.heap.size, 0, none⟩) L.length (grownCap w2 L.length 0 5)) L.length (bys L) := by
    have := OwnF.ofConv w2 5 ⟨L.toArray⟩ (Nat.le_refl _) (by rw [ba_size]; unfold maxLen; omega)
    simpa only [ba_size] using this
  have hsv := run_conv_ownF (P := Tryd.prog) (src := 57) (dst := 9) Tryd.underlying57 Tryd.underlying5 Tryd.underlying9 HO
  have HB := Lib.hid (below_trans hb1 (below_trans hb2 (bytesWorld_below w2 5 ⟨L.toArray⟩)))
  have HG4 := Lib.hid (show vget [255, 255, 255, 255, 255, 255, 255, 255, 255, 2] 0 = .error 4 from rfl)
  have HG1 := Lib.hid (show vget L 0 = .ok (n, L.length) by rw [HL.out]; exact vget_self hn.out)
  go_wp2_with fail
  refine (get_ok _ _ _ (by rw [ba_size]; unfold maxLen; omega) HG1.out).mono ?_; rintro e w3 ⟨rfl, rfl⟩
  have hq : cut % L.length < L.length := Nat.mod_lt _ (by omega)
  have hsv2 := run_conv_ownF_take (P := Tryd.prog) (src := 57) (dst := 9) Tryd.underlying57 Tryd.underlying5 Tryd.underlying9 HO (Nat.le_of_lt hq)
  have HCUT : Hid (vget (L.take (cut % L.length)) 0 = .error 1) := Lib.hid (by
    obtain ⟨init, c, h1, h2, _⟩ := vput_shape hn.out
    exact vget_cut hl2 hq (by rw [HL.out, h1, List.dropLast_concat]; exact h2))
  have hcap : L.length ≤ grownCap w2 L.length 0 5 := grownCap_ge _ _ _ _
  have hq0 : 0 ≤ (cut : Int) % (L.length : Int) := Int.emod_nonneg _ (by omega)
  have hq1 : (cut : Int) % (L.length : Int) ≤ (grownCap w2 L.length 0 5 : Int) := by
    have : (cut : Int) % (L.length : Int) = ((cut % L.length : Nat) : Int) := by simp
    omega
  go_wp2_with fail
  refine (get_err _ _ _ (by rw [ba_size, List.length_take]; unfold maxLen; omega) HCUT.out).mono ?_; rintro e w4 ⟨rfl, hw4⟩
  have hE : Hid (isErr w4 [(true, 0)] (.iface 36 (.pointer (some ⟨(Lib.bytesWorld w2 5 ⟨L.toArray⟩).heap.size, 0, none⟩))) (codeV 1)) := Lib.hid (by rw [hw4]; exact at_isErr _ 0 1)
  have hb4 : Below (Lib.bytesWorld w2 5 ⟨L.toArray⟩).heap.size (Lib.bytesWorld w2 5 ⟨L.toArray⟩) w4 := by rw [hw4]; exact below_alloc _ _
  clear hw4
  go_wp2_with fail
  refine (get_err _ _ _ (by decide) HG4.out).mono ?_; rintro e w5 ⟨rfl, hw5⟩
  have hE2 : Hid (isErr w5 [(true, 0)] (.iface 36 (.pointer (some ⟨w4.heap.size, 0, none⟩))) (codeV 4)) := Lib.hid (by rw [hw5]; exact at_isErr w4 0 4)
  have hb5 : Below w4.heap.size w4 w5 := by rw [hw5]; exact below_alloc _ _
  clear hw5
  go_wp2_with fail
  refine (first2 _).mono ?_; rintro e w6 ⟨rfl, hb6⟩
  have hB6 : Hid (Below w.heap.size w w6) := Lib.hid (below_trans HB.out (below_trans hb4 (below_trans hb5 hb6)))
  have hE' : Hid (isErr w6 [(true, 0)] (.iface 36 (.pointer (some ⟨(Lib.bytesWorld w2 5 ⟨L.toArray⟩).heap.size, 0, none⟩))) (codeV 1)) := Lib.hid (isErr_below hb6 (isErr_below hb5 hE.out))
  have hE2' : Hid (isErr w6 [(true, 0)] (.iface 36 (.pointer (some ⟨w4.heap.size, 0, none⟩))) (codeV 4)) := Lib.hid (isErr_below hb6 hE2.out)
  clear hb4 hb5 hb6 hE hE2
  go_wp2_with fail
  refine (code_any _ _ _ w6 hE'.out (root_code _) (HG.out.below hB6.out)).mono ?_; rintro e w7 ⟨rfl, hb7⟩
  rw [show codeOf (codeV 1) = 1 from rfl]
  go_wp2_with fail
  refine (code_any _ _ _ w7 (isErr_below hb7 hE2'.out) (root_code _) ((HG.out.below hB6.out).below hb7)).mono ?_; rintro e w8 ⟨rfl, hb8⟩
  rw [show codeOf (codeV 4) = 4 from rfl]
  go_wp2
  go_ret
  exact ⟨rfl, below_trans hB6.out (below_trans hb7 hb8)⟩

set_option maxRecDepth 1000000 in
set_option maxHeartbeats 8000000 in
theorem long_more (n : Nat) (more cut : Nat) (w : World) (hn : Hid (n < 2^64)) (hg : Glob w) (hm0 : 0 < more) (hm1 : Hid ((vput n).length + more ≤ 10)) (hcut : (cut : Int) ≤ 9223372036854775807) :
    Calls Tryd.prog 7 #[.int .u64 n, .int .i64 more, .int .i64 cut] w fun e w' => e = .returned (.bool true) ∧ Below w.heap.size w w' := by
  have HG := Lib.hid hg
  clear hg
  have hl := vput_length n
  obtain ⟨init, c, hsh, hinit, hc⟩ := vput_shape hn.out
  have HS := Lib.hid hsh
  have HI := Lib.hid hinit
  have HC := Lib.hid hc
  clear hsh hinit
  have hL : (init ++ [c]).length = (vput n).length := by rw [HS.out]
  have hl0 : (init ++ [c]).length = init.length + 1 := by simp
  have hmm := hm1.out
  have hl2 : init.length + 1 + more ≤ 10 := by omega
  clear hl hL hmm hl0
  have hpn := Lib.hid (put_start hn.out)
  have hcv := fun (W : World) => Lib.run_convert_string_bytes (P := Tryd.prog) W 9 57 5 ⟨(init ++ [c]).toArray⟩ Tryd.underlying9 Tryd.underlying57 Tryd.underlying5
  rw [ba_size, List.length_append, List.length_singleton] at hcv
  have hd1 : decide ((more : Int) < 0) = false := by simp
  have hd2 : decide (10 - ((init.length : Int) + 1) < (more : Int)) = false := by simp; omega
  have hd3 : decide ((cut : Int) < 0) = false := by simp
  have hd4 : ((init.length : Int) + 1 == 0) = false := by simp; omega
  go_enter Tryd.func7, Tryd.ntmps7
  go_wp2_with fail
  refine (first2 w).mono ?_; rintro e w1 ⟨rfl, hb1⟩
  go_wp2_with fail
  refine (put_any n w1 hpn.out).mono ?_; rintro e w2 ⟨rfl, hb2⟩
  rw [HS.out]
  have HO : OwnF (Lib.bytesWorld w2 5 ⟨(init ++ [c]).toArray⟩) w2.heap.size 1 (.slice (some ⟨w2.heap.size, 0, none⟩) (init.length + 1) (grownCap w2 (init.length + 1) 0 5)) (init.length + 1) (bys (init ++ [c])) := by
    have := OwnF.ofConv w2 5 ⟨(init ++ [c]).toArray⟩ (Nat.le_refl _) (by rw [ba_size]; simp; unfold maxLen; omega)
    simpa only [ba_size, List.length_append, List.length_singleton] using this
  have HB0 := Lib.hid (below_trans hb1 (below_trans hb2 (bytesWorld_below w2 5 ⟨(init ++ [c]).toArray⟩)))
  have hw2 := Lib.hid (Nat.le_trans hb1.size hb2.size)
  have hbw : (Lib.bytesWorld w2 5 ⟨(init ++ [c]).toArray⟩).heap.size = w2.heap.size + 1 := Lib.bytesWorld_size _ _ _
  have HBW := Lib.hid hbw
  clear hbw hb1 hb2
  have hcell : (Lib.bytesWorld w2 5 ⟨(init ++ [c]).toArray⟩).cell? ⟨w2.heap.size, init.length, none⟩ = some (.int .u8 (c.toNat : Int)) := HO.cell (by simp [bys])
  have hthaw : (Lib.bytesWorld w2 5 ⟨(init ++ [c]).toArray⟩).frozen? ⟨w2.heap.size, init.length, none⟩ = false := HO.thaw (by omega)
  have HO2 : OwnF ((Lib.bytesWorld w2 5 ⟨(init ++ [c]).toArray⟩).setCell ⟨w2.heap.size, init.length, none⟩ (.int .u8 (bits .or .u8 (c.toNat : Int) 128))) w2.heap.size 1 (.slice (some ⟨w2.heap.size, 0, none⟩) (init.length + 1) (grownCap w2 (init.length + 1) 0 5)) (init.length + 1) (bys (init ++ [UInt8.ofNat (c.toNat + 128)])) := by
    have h1 := HO.set (j := init.length) (by omega) (.int .u8 (bits .or .u8 (c.toNat : Int) 128))
    have h2 : (bys (init ++ [c])).set init.length (.int .u8 (bits .or .u8 (c.toNat : Int) 128)) = bys (init ++ [UInt8.ofNat (c.toNat + 128)]) := by
      have hc' := HC.out
      have e1 : bits .or .u8 (c.toNat : Int) 128 = ((UInt8.ofNat (c.toNat + 128)).toNat : Int) := by
        rw [show (128 : Int) = ((128 : Nat) : Int) from rfl, u8_or_nat c.toNat 128 (by omega) (by omega), Nat.or_comm, nat_join 7 128 c.toNat (by decide) (by omega), ofNat_toNat (by omega)]
        omega
      rw [e1]
      simp only [bys, List.map_append, List.map_cons, List.map_nil]
      rw [List.set_append_right _ _ (by simp)]
      simp
    rw [h2] at h1
    exact h1
  generalize hH : init ++ [UInt8.ofNat (c.toNat + 128)] = H at HO2
  have HH := Lib.hid hH
  have hHl : H.length = init.length + 1 := by rw [← hH]; simp
  have HHl := Lib.hid hHl
  clear hH hHl HO
  go_wp2_with fail
  have HB1 : Hid (Below w.heap.size w ((Lib.bytesWorld w2 5 ⟨(init ++ [c]).toArray⟩).setCell ⟨w2.heap.size, init.length, none⟩ (.int .u8 (bits .or .u8 (c.toNat : Int) 128)))) := Lib.hid (HB0.out.setCell hw2.out _)
  clear hcell hthaw
  go_loopw [7, 8] (fun v i wr => ∃ j : Nat, j + 1 ≤ more ∧ i = .int .i64 ((j : Int) + 1) ∧ OwnF wr w2.heap.size 1 v (init.length + 1 + j) (bys (H ++ List.replicate j 128)) ∧ w2.heap.size ≤ wr.heap.size ∧ Below w.heap.size w wr) (fun _ i _ => more - (intOf i).toNat)
  case atStart => exact ⟨0, by omega, rfl, by simpa using HO2, by simp [World.setCell, HBW.out], HB1.out⟩
  case round =>
    obtain ⟨j, hj, rfl, hown, hsz, hbr⟩ := hrel
    by_cases hlt : j + 1 < more
    · go_wp2_with (at_builtin; refine wpList_app1F rfl _ _ 57 rfl Tryd.elU8 (by decide) hown rfl rfl rfl (by simp [Value.oneCell']) (by unfold maxLen; omega) (by omega) hsz ?_; intro v' w1 hown' hgrow)
      have hown2 : OwnF w1 w2.heap.size 1 v' (init.length + 1 + (j + 1)) (bys (H ++ List.replicate (j + 1) 128)) := by
        have e : H ++ List.replicate (j + 1) 128 = (H ++ List.replicate j 128) ++ [128] := by rw [List.replicate_succ', List.append_assoc]
        rw [e, bys_snoc]
        exact hown'
      exact ⟨⟨j + 1, by omega, by simp, hown2, Nat.le_trans hsz hgrow.size, hbr.grown hgrow hbr.size (fun k hk => by
        obtain ⟨_, g, cap, rfl, hbg, _⟩ := hown
        simp [Value.ownBlock] at hk
        have := hw2.out
        omega)⟩, by simp [intOf]; omega⟩
    · obtain rfl : more = j + 1 := by omega
      obtain ⟨T, hT⟩ : ∃ T, T = H ++ List.replicate j 128 ++ [0] := ⟨_, rfl⟩
      have HT := Lib.hid hT
      have hTl : T.length = init.length + 1 + j + 1 := by rw [hT]; simp [HHl.out]; omega
      have hT1 : 1 ≤ T.length := by omega
      have hT2 : T.length ≤ 10 := by omega
      have HTl := Lib.hid hTl
      have hHH : H = hi128 (vput n) := by rw [HS.out, hi128_snoc, HH.out]
      have hvl : (vput n).length = init.length + 1 := by rw [HS.out]; simp
      have HG1 := Lib.hid (show vget T 0 = .ok (n, T.length) by rw [hTl, hT, hHH, vget_long hn.out (by omega), hvl])
      have hq : cut % T.length < T.length := Nat.mod_lt _ (by omega)
      have HCUT : Hid (vget (T.take (cut % T.length)) 0 = .error 1) := Lib.hid (vget_cut hT2 hq (by
        rw [hT, List.dropLast_concat, ← HH.out]
        have hc' := HC.out
        intro b hb
        rcases List.mem_append.1 hb with hb | hb
        · rcases List.mem_append.1 hb with hb | hb
          · exact HI.out b hb
          · rw [List.mem_singleton.1 hb, ofNat_toNat (by omega)]; omega
        · rw [(List.mem_replicate.1 hb).2]; decide))
      have HG4 := Lib.hid (show vget [255, 255, 255, 255, 255, 255, 255, 255, 255, 2] 0 = .error 4 from rfl)
      have hq0 : 0 ≤ (cut : Int) % (T.length : Int) := Int.emod_nonneg _ (by omega)
      have hqe : (cut : Int) % (T.length : Int) = ((cut % T.length : Nat) : Int) := by simp
      have hq2 : (cut : Int) % (T.length : Int) ≤ (T.length : Int) := by omega
      clear hT hTl hHH hvl hqe
      go_wp2_with (at_builtin; refine wpList_app1F rfl _ _ 57 rfl Tryd.elU8 (by decide) hown rfl rfl rfl (by simp [Value.oneCell']) (by unfold maxLen; omega) (by omega) hsz ?_; intro v' wf hown' hgrow; rw [bys_push _ 0 (by simp), ← HT.out, ← HTl.out] at hown'; obtain ⟨g, cap, rfl, hcap, hcm, hgb⟩ := hown'.form; have hcapi : (T.length : Int) ≤ (cap : Int) := (by omega); have hq1 : (cut : Int) % (T.length : Int) ≤ (cap : Int) := Int.le_trans hq2 hcapi; have hsv := run_conv_ownF (P := Tryd.prog) (src := 57) (dst := 9) Tryd.underlying57 Tryd.underlying5 Tryd.underlying9 hown'; have hsv2 := run_conv_ownF_take (P := Tryd.prog) (src := 57) (dst := 9) Tryd.underlying57 Tryd.underlying5 Tryd.underlying9 hown' (Nat.le_of_lt hq))
      have HB : Hid (Below w.heap.size w wf) := Lib.hid (hbr.grown hgrow hbr.size (fun k hk => by
        obtain ⟨g, cap, rfl, _, _, hbg⟩ := hown.form
        simp [Value.ownBlock] at hk
        have := hw2.out
        omega))
      refine (get_ok _ _ _ (by rw [ba_size]; unfold maxLen; omega) HG1.out).mono ?_; rintro e w3 ⟨rfl, rfl⟩
      go_wp2_with fail
      refine (get_err _ _ _ (by rw [ba_size, List.length_take]; unfold maxLen; omega) HCUT.out).mono ?_; rintro e w4 ⟨rfl, hw4⟩
      have hE : Hid (isErr w4 [(true, 0)] (.iface 36 (.pointer (some ⟨(wf).heap.size, 0, none⟩))) (codeV 1)) := Lib.hid (by rw [hw4]; exact at_isErr _ 0 1)
      have hb4 : Below (wf).heap.size (wf) w4 := by rw [hw4]; exact below_alloc _ _
      clear hw4
      go_wp2_with fail
      refine (get_err _ _ _ (by decide) HG4.out).mono ?_; rintro e w5 ⟨rfl, hw5⟩
      have hE2 : Hid (isErr w5 [(true, 0)] (.iface 36 (.pointer (some ⟨w4.heap.size, 0, none⟩))) (codeV 4)) := Lib.hid (by rw [hw5]; exact at_isErr w4 0 4)
      have hb5 : Below w4.heap.size w4 w5 := by rw [hw5]; exact below_alloc _ _
      clear hw5
      go_wp2_with fail
      refine (first2 _).mono ?_; rintro e w6 ⟨rfl, hb6⟩
      have hB6 : Hid (Below w.heap.size w w6) := Lib.hid (below_trans HB.out (below_trans hb4 (below_trans hb5 hb6)))
      have hE' : Hid (isErr w6 [(true, 0)] (.iface 36 (.pointer (some ⟨(wf).heap.size, 0, none⟩))) (codeV 1)) := Lib.hid (isErr_below hb6 (isErr_below hb5 hE.out))
      have hE2' : Hid (isErr w6 [(true, 0)] (.iface 36 (.pointer (some ⟨w4.heap.size, 0, none⟩))) (codeV 4)) := Lib.hid (isErr_below hb6 hE2.out)
      clear hb4 hb5 hb6 hE hE2
      go_wp2_with fail
      refine (code_any _ _ _ w6 hE'.out (root_code _) (HG.out.below hB6.out)).mono ?_; rintro e w7 ⟨rfl, hb7⟩
      rw [show codeOf (codeV 1) = 1 from rfl]
      go_wp2_with fail
      refine (code_any _ _ _ w7 (isErr_below hb7 hE2'.out) (root_code _) ((HG.out.below hB6.out).below hb7)).mono ?_; rintro e w8 ⟨rfl, hb8⟩
      rw [show codeOf (codeV 4) = 4 from rfl]
      go_wp2
      go_ret
      exact ⟨rfl, below_trans hB6.out (below_trans hb7 hb8)⟩

theorem long_walk (n : Nat) (more cut : Int) (w : World) (hn : n < 2^64) (hg : Glob w) (hcut : cut ≤ 9223372036854775807) :
    Calls Tryd.prog 7 #[.int .u64 n, .int .i64 more, .int .i64 cut] w fun e w' => e = .returned (.bool true) ∧ Below w.heap.size w w' := by
  by_cases h : more < 0 ∨ 10 - ((vput n).length : Int) < more ∨ cut < 0
  · exact long_out n more cut w (Lib.hid hn) h
  · obtain ⟨m, rfl⟩ := Int.eq_ofNat_of_zero_le (by omega : 0 ≤ more)
    obtain ⟨c, rfl⟩ := Int.eq_ofNat_of_zero_le (by omega : 0 ≤ cut)
    rcases Nat.eq_zero_or_pos m with rfl | hm
    · exact long_zero n c w (Lib.hid hn) hg hcut
    · exact long_more n m c w (Lib.hid hn) hg hm (Lib.hid (by omega)) hcut
end Go.Proofs.YtlbfeknmbgjknaaDoor
