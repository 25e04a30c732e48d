/-
  hygref18.PutRuns.
-/
import Derived.Test.YtihoemimiplhfaaDoorRunsPut
import Derived.Test.YtihoemimiplhfaaDoorVarint
import Derived.Test.YtihoemimiplhfaaDoorOrd
import Derived.Deep.QuietTactic
import Derived.IntWalk
namespace Go.Proofs.YtihoemimiplhfaaDoor
open Go.RowKit

theorem rput_at (n : Nat) (w : World) (hn : n < 2^64) : Calls Tryd.prog 55 #[.int .u64 n] w fun e w' => e = .returned (.string ⟨(vput n).toArray⟩) ∧ Below w.heap.size w w' := refput_any n w (put_start hn) (Lib.hid hn)
theorem ba_join (a b : List UInt8) : (⟨a.toArray⟩ : ByteArray) ++ (⟨b.toArray⟩ : ByteArray) = ⟨(a ++ b).toArray⟩ := ba_append a b
/-- place i: the runs ahead of it -/
structure RunsTo (l : List Nat) (i : Nat) (ps : List (Nat × Nat)) : Prop where
  le : ps.length ≤ i
  runs : runsOf l = ps ++ runsOf (l.drop i)
theorem runsTo_next {l : List Nat} {i t n : Nat} {ps : List (Nat × Nat)} (h : RunsTo l i ps) (hr : l.drop i = List.replicate (t + 1) n ++ l.drop (i + t + 1)) (hx : l[i + t + 1]? ≠ some n) : RunsTo l (i + t + 1) (ps ++ [(n, t)]) := by
  refine ⟨by have := h.le; simp; omega, ?_⟩
  rw [h.runs, hr, runsOf_rep]
  · simp
  · intro m hm e
    rw [List.head?_drop] at hm
    subst e
    exact hx hm
theorem rep_next {l : List Nat} {i t n : Nat} (hr : l.drop i = List.replicate (t + 1) n ++ l.drop (i + t + 1)) (hx : l[i + t + 1]? = some n) : l.drop i = List.replicate (t + 1 + 1) n ++ l.drop (i + (t + 1) + 1) := by
  have hj : i + t + 1 < l.length := (List.getElem?_eq_some_iff.1 hx).1
  have hd : l.drop (i + t + 1) = n :: l.drop (i + t + 1 + 1) := by
    have := List.drop_eq_getElem_cons hj
    rw [this]
    rw [List.getElem?_eq_getElem hj] at hx
    simp at hx
    rw [hx]
  rw [hr, hd, List.replicate_succ' (n := t + 1), List.append_assoc, show i + (t + 1) + 1 = i + t + 1 + 1 by omega]
  rfl
theorem rep_start {l : List Nat} {i n : Nat} (hi : i < l.length) (hn : n = l[i]) : l.drop i = List.replicate (0 + 1) n ++ l.drop (i + 0 + 1) := by
  rw [hn]; exact List.drop_eq_getElem_cons hi
set_option maxRecDepth 1000000 in
set_option maxHeartbeats 8000000 in
theorem rrput_any (ao : Option Addr) (cap : Nat) (l : List Nat) (w : World) (hN : Nats .u64 w ao l) (hlt : Hid (∀ n ∈ l, n < 18446744073709551616)) (hl : l.length ≤ 20000) {S : ByteArray} (hS : Hid ((⟨(vputs (flatR (runsOf l))).toArray⟩ : ByteArray) = S)) :
    Calls Tryd.prog 51 #[.slice ao l.length cap] w fun e w' => e = .returned (.tuple #[.string S, .int .i64 0]) ∧ Below w.heap.size w w' := by
  go_enter Tryd.func51, Tryd.ntmps51
  go_wp2_with fail
  go_loopg [4, 5] l.length (fun k vs vi wr => ∃ (i : Nat) (ps : List (Nat × Nat)) (z : ByteArray), i + k = l.length ∧ vi = .int .i64 i ∧ vs = .string z ∧ Hid (RunsTo l i ps) ∧ Hid (z = ⟨(vputs (flatR ps)).toArray⟩) ∧ Below w.heap.size w wr)
  case atStart => exact ⟨0, [], ⟨#[]⟩, by omega, rfl, rfl, Lib.hid ⟨Nat.le_refl _, by simp⟩, Lib.hid rfl, Below.refl _ _⟩
  case round =>
    obtain ⟨i, ps, z, hik, rfl, rfl, HR, HZ, hbr⟩ := hrel
    have hpl := HR.out.le
    have hfl := flatR_length ps
    have hvl := vputs_length (flatR ps)
    have hzs : z.size = (vputs (flatR ps)).length := by rw [HZ.out]; exact ba_size _
    have HB := Lib.hid hbr
    have hz9 : z.size ≤ 400000 := by omega
    clear hbr hzs hvl hfl hpl
    by_cases hlt' : i < l.length
    · obtain ⟨b, off, n, HN, rfl, hbl, hc⟩ := hN.at hlt'
      have hn : n < 18446744073709551616 := by rw [HN.out]; exact hlt.out _ (List.getElem_mem _)
      have hi1 : (i : Int) < (l.length : Int) := by omega
      have hi0 : (0 : Int) ≤ (i : Int) := by omega
      obtain ⟨gk0, HGK⟩ : ∃ gk0, Hid (gk = gk0) := ⟨_, Lib.hid rfl⟩
      have HIK := Lib.hid hik
      have HL := Lib.hid hlt'
      have HST := Lib.hid (rep_start hlt' HN.out)
      clear hik
      go_wp2_with fail
      go_loopg [6] (l.length - i - 1) (fun k v wr2 => ∃ (t u : Nat), u + k = l.length - i ∧ u = t + 1 ∧ v = .int .i64 (u : Nat) ∧ Hid (l.drop i = List.replicate (t + 1) n ++ l.drop (i + t + 1)) ∧ Below w.heap.size w wr2)
      case atStart => exact ⟨0, 1, by omega, rfl, rfl, HST, HB.out⟩
      case round =>
        obtain ⟨t, u, huk, hut, rfl, HT, hbr2⟩ := hrel
        have HB2 := Lib.hid (hbr2.trans ((below_drew0 _).mono hbr2.size))
        clear hbr2
        obtain ⟨j, hj⟩ : ∃ j, i + t + 1 = j := ⟨_, rfl⟩
        have hji : (i : Int) + (u : Int) = (j : Int) := by omega
        have HT2 : Hid (l.drop i = List.replicate (t + 1) n ++ l.drop j) := Lib.hid (hj ▸ HT.out)
        have HUK := Lib.hid huk
        have hjle : j ≤ l.length := by omega
        have HUT := Lib.hid hut
        have hti : (u : Int) - 1 = (t : Int) := by omega
        have ht64 : t < 18446744073709551616 := by omega
        have hu9 : u ≤ 20000 := by omega
        have HJ := Lib.hid hj
        clear huk
        clear hut
        by_cases hin : j < l.length
        · obtain ⟨b2, off2, n2, HN2, hao, hbl2, hc2⟩ := hN.at hin
          simp only [Option.some.injEq, Addr.mk.injEq, and_true] at hao
          obtain ⟨rfl, rfl⟩ := hao
          have hin1 : (j : Int) < (l.length : Int) := by omega
          have hj0 : (0 : Int) ≤ (j : Int) := by omega
          have hwj : IntKind.i64.wrap (j : Int) = (j : Int) := IntWalk.i64_in _ (by omega)
          have hdj : decide ((j : Int) < (l.length : Int)) = true := decide_eq_true hin1
          by_cases hnn : n2 = n
          · have he : ((n2 : Int) == (n : Int)) = true := by subst hnn; simp
            have HT3 : Hid (l.drop i = List.replicate (t + 1 + 1) n ++ l.drop (i + (t + 1) + 1)) := Lib.hid (rep_next HT.out (by rw [hj, List.getElem?_eq_getElem hin, ← HN2.out, hnn]))
            clear hnn hj
            go_wp2_with fail
            have hne : Nonempty { w' : World // Below w.heap.size w w' } := ⟨⟨_, HB2.out⟩⟩
            have hx1 : ∀ q : { w' : World // Below w.heap.size w w' }, q.1.cell? ⟨b, off + i, none⟩ = some (.int .u64 (n : Int)) := fun q => (q.2.cell (p := ⟨b, off + i, none⟩) hbl).trans hc
            have hx2 : ∀ q : { w' : World // Below w.heap.size w w' }, q.1.cell? ⟨b, off + j, none⟩ = some (.int .u64 (n2 : Int)) := fun q => (q.2.cell (p := ⟨b, off + j, none⟩) hbl).trans hc2
            refine wp_region_seq (S := fun w' => Below w.heap.size w w') [(0, true), (1, true), (2, true), (3, true), (4, true), (5, true), (6, true), (7, true), (8, true), (9, true), (10, true), (11, true), (12, true), (13, true), (14, true), (15, true), (16, true), (17, true), (18, true)] (by kernel_rfl) (by kernel_rfl) (by kernel_rfl) (by kernel_rfl) HB2.out ?_
            iterate 19 (refine seq_take _ rfl (fun K hK => ?_); go_simp; (first | refine hK _ ?_ | (refine ⟨undef, by rw [if_neg (by simp [undef])], ?_⟩; refine hK _ ?_)); clear hK K)
            refine seq_done ?_
            clear hx1 hx2 hne
            obtain ⟨w3, hw3⟩ : ∃ w3, wr.drew = w3 := ⟨_, rfl⟩
            rw [hw3] at HB2 ⊢
            have hc3 : w3.cell? ⟨b, off + i, none⟩ = some (.int .u64 (n : Int)) := (HB2.out.cell (p := ⟨b, off + i, none⟩) hbl).trans hc
            clear hw3
            go_wp2_with fail
            have huk := HUK.out
            have hut := HUT.out
            have hj := HJ.out
            go_roundg (gk - 1)
            case measure => omega
            case rel => exact ⟨t + 1, u + 1, by omega, by omega, by simp, HT3, HB2.out⟩
          · have he : ((n2 : Int) == (n : Int)) = false := by simp; omega
            have HX : Hid (RunsTo l j (ps ++ [(n, t)])) := Lib.hid (hj ▸ runsTo_next HR.out HT.out (by rw [hj, List.getElem?_eq_getElem hin, ← HN2.out]; intro h; exact hnn (by simpa using h)))
            clear hnn hj
            go_wp2_with fail
            have hne : Nonempty { w' : World // Below w.heap.size w w' } := ⟨⟨_, HB2.out⟩⟩
            have hx1 : ∀ q : { w' : World // Below w.heap.size w w' }, q.1.cell? ⟨b, off + i, none⟩ = some (.int .u64 (n : Int)) := fun q => (q.2.cell (p := ⟨b, off + i, none⟩) hbl).trans hc
            have hx2 : ∀ q : { w' : World // Below w.heap.size w w' }, q.1.cell? ⟨b, off + j, none⟩ = some (.int .u64 (n2 : Int)) := fun q => (q.2.cell (p := ⟨b, off + j, none⟩) hbl).trans hc2
            refine wp_region_seq (S := fun w' => Below w.heap.size w w') [(0, true), (1, true), (2, true), (3, true), (4, true), (5, true), (6, true), (7, true), (8, true), (9, true), (10, true), (11, true), (12, true), (13, true), (14, true), (15, true), (16, true), (17, true), (18, true)] (by kernel_rfl) (by kernel_rfl) (by kernel_rfl) (by kernel_rfl) HB2.out ?_
            iterate 19 (refine seq_take _ rfl (fun K hK => ?_); go_simp; (first | refine hK _ ?_ | (refine ⟨undef, by rw [if_neg (by simp [undef])], ?_⟩; refine hK _ ?_)); clear hK K)
            refine seq_done ?_
            clear hx1 hx2 hne
            obtain ⟨w3, hw3⟩ : ∃ w3, wr.drew = w3 := ⟨_, rfl⟩
            rw [hw3] at HB2 ⊢
            have hc3 : w3.cell? ⟨b, off + i, none⟩ = some (.int .u64 (n : Int)) := (HB2.out.cell (p := ⟨b, off + i, none⟩) hbl).trans hc
            clear hw3
            go_wp2_with fail
            refine (rput_at n _ hn).mono ?_; rintro e w1 ⟨rfl, hb1⟩
            have HB4 := Lib.hid (HB2.out.trans (hb1.mono HB2.out.size))
            have hy1 : (⟨(vput n).toArray⟩ : ByteArray).size ≤ 10 := by rw [ba_size]; exact (vput_length n).2
            clear hb1
            go_wp2_with fail
            refine (rput_at t _ ht64).mono ?_; rintro e w2 ⟨rfl, hb2⟩
            have HB5 := Lib.hid (HB4.out.trans (hb2.mono HB4.out.size))
            have hy2 : (⟨(vput t).toArray⟩ : ByteArray).size ≤ 10 := by rw [ba_size]; exact (vput_length t).2
            obtain ⟨y, hyy⟩ : ∃ y, (⟨(vput n).toArray⟩ : ByteArray) ++ (⟨(vput t).toArray⟩ : ByteArray) = y := ⟨_, rfl⟩
            have hys : y.size ≤ 20 := by rw [← hyy, ByteArray.size_append]; omega
            obtain ⟨z2, hz2'⟩ : ∃ z2, z ++ y = z2 := ⟨_, rfl⟩
            have HZ2 : Hid (z2 = ⟨(vputs (flatR (ps ++ [(n, t)]))).toArray⟩) := Lib.hid (by rw [← hz2', ← hyy, HZ.out, ba_join, ba_join, flatR_append]; simp [vputs, flatR])
            clear hb2
            go_wp2_with fail
            have hgk0 := HGK.out
            have hj := HJ.out
            have huk := HUK.out
            have hut := HUT.out
            have hik := HIK.out
            go_roundg (gk0 - (t + 1))
            case measure => omega
            case rel => exact ⟨j, ps ++ [(n, t)], z2, by omega, by simp, rfl, HX, HZ2, HB5.out⟩
        · have hin1 : ¬ (j : Int) < (l.length : Int) := by omega
          have hwj : IntKind.i64.wrap (j : Int) = (j : Int) := IntWalk.i64_in _ (by omega)
          have hdj : decide ((j : Int) < (l.length : Int)) = false := decide_eq_false hin1
          have HX : Hid (RunsTo l j (ps ++ [(n, t)])) := Lib.hid (hj ▸ runsTo_next HR.out HT.out (by rw [hj, List.getElem?_eq_none (by omega)]; simp))
          clear hj
          go_wp2_with fail
          refine wp_region_seq (S := fun _ => True) [(0, true), (1, true), (2, true), (3, true), (4, true), (5, true), (6, true), (7, true), (8, true), (9, true), (10, true), (11, true), (12, true), (13, true), (14, true), (15, true), (16, true), (17, true), (18, true)] (by kernel_rfl) (by kernel_rfl) (by kernel_rfl) (by kernel_rfl) trivial ?_
          iterate 19 (refine seq_take _ rfl (fun K hK => ?_); go_simp; (first | refine hK _ ?_ | (refine ⟨undef, by rw [if_neg (by simp [undef])], ?_⟩; refine hK _ ?_)); clear hK K)
          refine seq_done ?_
          obtain ⟨w3, hw3⟩ : ∃ w3, wr.drew = w3 := ⟨_, rfl⟩
          rw [hw3] at HB2 ⊢
          have hc3 : w3.cell? ⟨b, off + i, none⟩ = some (.int .u64 (n : Int)) := (HB2.out.cell (p := ⟨b, off + i, none⟩) hbl).trans hc
          clear hw3
          go_wp2_with fail
          refine (rput_at n _ hn).mono ?_; rintro e w1 ⟨rfl, hb1⟩
          have HB4 := Lib.hid (HB2.out.trans (hb1.mono HB2.out.size))
          have hy1 : (⟨(vput n).toArray⟩ : ByteArray).size ≤ 10 := by rw [ba_size]; exact (vput_length n).2
          clear hb1
          go_wp2_with fail
          refine (rput_at t _ ht64).mono ?_; rintro e w2 ⟨rfl, hb2⟩
          have HB5 := Lib.hid (HB4.out.trans (hb2.mono HB4.out.size))
          have hy2 : (⟨(vput t).toArray⟩ : ByteArray).size ≤ 10 := by rw [ba_size]; exact (vput_length t).2
          obtain ⟨y, hyy⟩ : ∃ y, (⟨(vput n).toArray⟩ : ByteArray) ++ (⟨(vput t).toArray⟩ : ByteArray) = y := ⟨_, rfl⟩
          have hys : y.size ≤ 20 := by rw [← hyy, ByteArray.size_append]; omega
          obtain ⟨z2, hz2'⟩ : ∃ z2, z ++ y = z2 := ⟨_, rfl⟩
          have HZ2 : Hid (z2 = ⟨(vputs (flatR (ps ++ [(n, t)]))).toArray⟩) := Lib.hid (by rw [← hz2', ← hyy, HZ.out, ba_join, ba_join, flatR_append]; simp [vputs, flatR])
          clear hb2
          go_wp2_with fail
          have hgk0 := HGK.out
          have hj := HJ.out
          have huk := HUK.out
          have hut := HUT.out
          have hik := HIK.out
          go_roundg (gk0 - (t + 1))
          case measure => omega
          case rel => exact ⟨j, ps ++ [(n, t)], z2, by omega, by simp, rfl, HX, HZ2, HB5.out⟩
    · have HE : z = S := by
        have h := HR.out.runs
        rw [List.drop_eq_nil_of_le (by omega)] at h
        rw [HZ.out, ← hS.out, h]
        simp [runsOf]
      subst HE
      go_wp2_with fail
      go_ret2
      exact ⟨rfl, HB.out⟩
end Go.Proofs.YtihoemimiplhfaaDoor
