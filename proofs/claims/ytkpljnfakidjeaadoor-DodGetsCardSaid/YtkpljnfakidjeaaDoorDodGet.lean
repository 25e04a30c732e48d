/-
  dod.Get.
-/
import Derived.Test.YtkpljnfakidjeaaDoorDodPut
import Derived.Test.YtkpljnfakidjeaaDoorNatsApp
import Derived.Laws.OwnMore
namespace Go.Proofs.YtkpljnfakidjeaaDoor
open Go.RowKit

theorem Tryd.elU64d : Elem Tryd.prog 22 40 (.int .u64 0) 1 8 := ⟨Tryd.underlying22, by kernel_rfl, by decide⟩
/-- the decoded ones, and zeros behind them -/
def filled (ls : List Nat) (k : Nat) : List Value := nvals (ls ++ List.replicate k 0)
theorem filled_zero (k : Nat) : List.replicate k (Value.int .u64 0) = filled [] k := by simp [filled, nvals]
theorem filled_length (ls : List Nat) (k : Nat) : (filled ls k).length = ls.length + k := by simp [filled, nvals]
theorem filled_set (ls : List Nat) (k n : Nat) : (filled ls (k + 1)).set ls.length (.int .u64 (n : Int)) = filled (ls ++ [n]) k := by
  unfold filled nvals
  rw [List.replicate_succ, List.map_append, List.set_append_right _ _ (by simp), List.length_map, Nat.sub_self, List.map_cons, List.set_cons_zero]
  simp
theorem filled_at (ls : List Nat) (k : Nat) : (filled ls (k + 1))[ls.length]? = some (.int .u64 0) := by
  unfold filled nvals
  rw [List.replicate_succ]
  simp
theorem filled_all (ls : List Nat) : filled ls 0 = nvals ls := by simp [filled]
theorem wrap_add (a b : Nat) : IntKind.u64.wrap ((a : Int) + (b : Int)) = ((add64 a b : Nat) : Int) := by
  rw [IntKind.wrap_u64]; unfold add64; omega
theorem wrap_uns (x : Nat) : IntKind.u64.wrap (zag x) = ((zagN x : Nat) : Int) := by
  rw [IntKind.wrap_u64]; unfold zagN uns64; omega
/-- what Get answers of a count that may be, and what it leaves -/
def DGPost (s : ByteArray) (c : Nat) (w : World) (e : Ending) (w' : World) : Prop :=
  Below w.heap.size w w' ∧ ((∃ xs, rdn s.data.toList c = .ok (xs, s.size, false) ∧ ∃ ao cap, e = .returned (.tuple #[.slice ao c cap, .nilIface]) ∧ c ≤ cap ∧ (ao = none → cap = 0) ∧ Nats .u64 w' ao (dec xs).1 ∧ (dec xs).1.length = c) ∨
    ((∀ xs, rdn s.data.toList c ≠ .ok (xs, s.size, false)) ∧ ∃ x, e = .returned (.tuple #[.slice none 0 0, .iface 73 x])))
theorem dg_bad {s : ByteArray} {c : Nat} {w w' : World} (hb : Below w.heap.size w w') (h : ∀ xs, rdn s.data.toList c ≠ .ok (xs, s.size, false)) (x : Value) : DGPost s c w (.returned (.tuple #[.slice none 0 0, .iface 73 x])) w' := ⟨hb, .inr ⟨h, x, rfl⟩⟩
theorem dec_snoc_hd {ys : List Nat} {ls : List Nat} {la st : Nat} (h : dec ys = (ls, la, st)) (n : Nat) : dec (ys ++ [n]) = decT (ls, la, st) n := by rw [dec_snoc, h]
set_option maxRecDepth 1000000 in
set_option maxHeartbeats 4000000 in
theorem dget_any (s : ByteArray) (c : Nat) (w : World) (hs : s.size ≤ 9223372036854775807) (hc : c ≤ 20000) :
    Calls Tryd.prog 13 #[.string s, .int .i64 c] w (DGPost s c w) := by
  obtain ⟨i0, hi, hz0, hz1, hz2⟩ := info_parts Tryd.elU64d.2.1
  go_enter Tryd.func13, Tryd.ntmps13
  go_wp2_with fail
  refine (snew_any s w).mono ?_; rintro e w1 ⟨rfl, hsr, hb1⟩
  have hw1 := hb1.size
  have hrl := row_lt hsr
  go_wp2_with (at_make; refine wpList_make_full _ rfl _ _ 22 rfl w.heap.size 40 i0 (.int .u64 0) 1 Tryd.underlying22 hi hz0 hz1 _ _ _ _ c rfl rfl rfl rfl (by rw [hz2]; omega) (by unfold maxLen; omega) hw1 ?_; intro w2 hown hgrow)
  have hB2 : Below w.heap.size w w2 := hb1.grown hgrow hw1 (by simp)
  have hS2 : SR w.heap.size s 0 .nilIface w2 := (hgrow.block w.heap.size hrl (by simp)).trans hsr
  have hrows : (madeCells (Value.int .u64 0).cells (c * 1)).toList = filled [] c := by
    rw [Nat.mul_one]; exact (toList_madeCells_one _ _).trans (filled_zero c)
  rw [hrows] at hown
  obtain ⟨g, hg⟩ : ∃ g, w1.heap.size = g := ⟨_, rfl⟩
  rw [hg] at hown hrl ⊢
  have HO := Lib.hid hown
  have HB := Lib.hid hB2
  have HS := Lib.hid hS2
  have HR0 : Hid (w.heap.size < g) := Lib.hid hrl
  clear hown hB2 hS2 hrows hgrow hsr hb1 hg hw1 hrl
  go_wp2_with fail
  go_loopg [8, 9, 28] c (fun k vla vst i wr => ∃ (j : Nat) (xs ls : List Nat) (la st q : Nat) (b : Bool) (f : Value), j + k = c ∧ i = .int .i64 j ∧ vla = .int .u64 la ∧ vst = .int .u64 st ∧ Hid (rdn s.data.toList j = .ok (xs, q, b)) ∧ Hid (dec xs = (ls, la, st)) ∧ Hid (FV b f) ∧
    SR w.heap.size s q f wr ∧ wr.ownsRow w.heap.size 40 1 (.slice (some ⟨g, 0, none⟩) c c) c (filled ls k) ∧ Below w.heap.size w wr)
  case atStart => exact ⟨0, [], [], 0, 0, 0, false, .nilIface, by omega, rfl, rfl, rfl, Lib.hid rfl, Lib.hid rfl, Lib.hid rfl, HS.out, HO.out, HB.out⟩
  case round =>
    obtain ⟨j, xs, ls, la, st, q, b, f, hj, rfl, rfl, rfl, HRD, HD, HF, hsr, hown, hbr⟩ := hrel
    obtain ⟨f1, f2, f3, f4, f5⟩ := rdn_facts HRD.out
    have ok := dec_ok xs f4
    rw [HD.out] at ok
    have hla : la < 18446744073709551616 := ok.last
    have hst : st < 18446744073709551616 := ok.step
    have hll : ls.length = j := by rw [← f1]; exact ok.len
    have HS := Lib.hid hsr
    have HO := Lib.hid hown
    have HB := Lib.hid hbr
    have hq : q ≤ s.size := by simpa using f3
    have hsz : s.data.toList.length = s.size := by simp
    clear hsr hown hbr f1 f2 f3 f4 f5 ok
    by_cases hlt : j < c
    · obtain ⟨m, rfl⟩ : ∃ m, gk = m + 1 := ⟨gk - 1, by omega⟩
      have hi1 : (j : Int) < (c : Int) := by omega
      have hi0 : (0 : Int) ≤ (j : Int) := by omega
      cases hv : vget s.data.toList (q : Int) with
      | error cc =>
        have HV := Lib.hid hv
        have HE : Hid (∀ xs, rdn s.data.toList c ≠ .ok (xs, s.size, false)) := Lib.hid fun ys hy => by
          have h1 := rdn_more (rdn_stop HRD.out HV.out) m
          rw [show j + 1 + m = c by omega, hy] at h1
          simp at h1
        clear hv hj
        go_wp2_with fail
        refine (snum_err w.heap.size s q f _ HS.out (by unfold maxLen; exact hs) HV.out).mono ?_; rintro e w3 ⟨⟨x, rfl⟩, hb3⟩
        have HB3 := Lib.hid (HB.out.trans (hb3.mono HB.out.size))
        clear hb3
        go_wp2_with fail
        go_ret2
        exact dg_bad HB3.out HE.out x
      | ok ne =>
        obtain ⟨n, q2⟩ := ne
        obtain ⟨g1, g2, g3, g4, g5⟩ := vget_inv hv
        have hq2 : q2 ≤ s.size := by simpa using g2
        obtain ⟨gg, hgg⟩ : ∃ gg, decide ((vput n).length < q2 - q) = gg := ⟨_, rfl⟩
        have HGG := Lib.hid hgg
        have HRD2 := Lib.hid (rdn_step HRD.out hv)
        have HV := Lib.hid hv
        have HDS := Lib.hid (dec_snoc_hd HD.out n)
        have HJ := Lib.hid hj
        clear hv g2 g4 g5 hgg hj
        go_wp2_with fail
        refine (snum_ok w.heap.size s q b f _ HS.out HF.out (by unfold maxLen; exact hs) HV.out g3 (by omega) hq2 HGG).mono ?_; rintro e w3 ⟨rfl, f', hf', hsr3, hu3⟩
        have HS3 := Lib.hid hsr3
        have HF3 := Lib.hid hf'
        have HO3 := Lib.hid (hu3.own HO.out (fun k hk h => by have := HR0.out; simp [Value.ownBlock] at hk; omega))
        have HB3 := Lib.hid (HB.out.trans (hu3.below HB.out.size (fun k _ hk => by omega)))
        clear hsr3 hu3 hf'
        by_cases hz : j = 0
        · have ez : ((j : Int) == 0) = true := by simp; omega
          have HX : Hid (dec (xs ++ [n]) = (ls ++ [n], n, st)) := Lib.hid (by
            have hl0 : ls = [] := List.length_eq_zero_iff.1 (by omega)
            rw [HDS.out, hl0]; rfl)
          clear hz
          have hfz : w3.frozen? ⟨g, j, none⟩ = false := HO3.out.frozenAt j
          have hce : w3.cell? ⟨g, j, none⟩ = some (.int .u64 0) := (HO3.out.cellAt j (by omega)).trans (by rw [← hll]; exact filled_at ls m)
          go_wp2_with fail
          have hj := HJ.out
          have HU4 := Upd.set w3 ⟨g, j, none⟩ (.int .u64 (n : Int))
          have HO4 := (HO3.out.stored j (.int .u64 (n : Int))).1
          have hset : (filled ls (m + 1)).set j (.int .u64 (n : Int)) = filled (ls ++ [n]) m := by rw [← hll]; exact filled_set ls m n
          rw [hset] at HO4
          go_roundg m
          case measure => omega
          case rel => exact ⟨j + 1, xs ++ [n], ls ++ [n], n, st, q2, b || gg, f', by omega, by simp, rfl, rfl, Lib.hid (by rw [HRD2.out, HGG.out]), HX.out, HF3, HS3.out.upd HU4 (fun h => Nat.ne_of_lt HR0.out h), HO4, HB3.out.trans (HU4.below HB3.out.size (fun k _ hk => by subst hk; exact Nat.le_of_lt HR0.out))⟩
        · have ez : ((j : Int) == 0) = false := by simp; omega
          have hzz := zagN_lt n
          obtain ⟨z, hzg⟩ : ∃ z, zag n = z := ⟨_, rfl⟩
          obtain ⟨d, hd⟩ : ∃ d, zagN n = d := ⟨_, rfl⟩
          obtain ⟨st2, hst2⟩ : ∃ x, add64 st d = x := ⟨_, rfl⟩
          obtain ⟨la2, hla2⟩ : ∃ x, add64 la st2 = x := ⟨_, rfl⟩
          have e1 : IntKind.u64.wrap z = (d : Int) := by rw [← hzg, ← hd]; exact wrap_uns n
          have e2 : IntKind.u64.wrap ((st : Int) + (d : Int)) = (st2 : Int) := by rw [← hst2]; exact wrap_add st d
          have e3 : IntKind.u64.wrap ((la : Int) + (st2 : Int)) = (la2 : Int) := by rw [← hla2]; exact wrap_add la st2
          have HX : Hid (dec (xs ++ [n]) = (ls ++ [la2], la2, st2)) := Lib.hid (by
            have hl0 : ls ≠ [] := fun h => hz (by rw [← hll, h]; rfl)
            rw [HDS.out]
            unfold decT
            rw [if_neg hl0]
            simp only [hd, hst2, hla2])
          have HZ := Lib.hid hzg
          rw [hd] at hzz
          have hst2l : st2 < 18446744073709551616 := by rw [← hst2]; exact add64_lt _ _
          have hla2l : la2 < 18446744073709551616 := by rw [← hla2]; exact add64_lt _ _
          clear hz hzg hd hst2 hla2
          go_wp2_with fail
          refine (zag_at n z _ g3 HZ).mono ?_; rintro e w' ⟨rfl, rfl⟩
          have hfz : w3.frozen? ⟨g, j, none⟩ = false := HO3.out.frozenAt j
          have hce : w3.cell? ⟨g, j, none⟩ = some (.int .u64 0) := (HO3.out.cellAt j (by omega)).trans (by rw [← hll]; exact filled_at ls m)
          go_wp2_with fail
          have hj := HJ.out
          have HU4 := Upd.set w3 ⟨g, j, none⟩ (.int .u64 (la2 : Int))
          have HO4 := (HO3.out.stored j (.int .u64 (la2 : Int))).1
          have hset : (filled ls (m + 1)).set j (.int .u64 (la2 : Int)) = filled (ls ++ [la2]) m := by rw [← hll]; exact filled_set ls m la2
          rw [hset] at HO4
          go_roundg m
          case measure => omega
          case rel => exact ⟨j + 1, xs ++ [n], ls ++ [la2], la2, st2, q2, b || gg, f', by omega, by simp, rfl, rfl, Lib.hid (by rw [HRD2.out, HGG.out]), HX.out, HF3, HS3.out.upd HU4 (fun h => Nat.ne_of_lt HR0.out h), HO4, HB3.out.trans (HU4.below HB3.out.size (fun k _ hk => by subst hk; exact Nat.le_of_lt HR0.out))⟩
    · obtain rfl : gk = 0 := by omega
      obtain rfl : j = c := by omega
      obtain ⟨gg, hgg⟩ : ∃ gg, decide (q < s.size) = gg := ⟨_, rfl⟩
      have HGG := Lib.hid hgg
      clear hgg
      go_wp2_with fail
      refine (send_at w.heap.size s q b f _ HS.out HF.out HGG).mono ?_; rintro e w3 ⟨⟨f', rfl, hf'⟩, hb3⟩
      have HB3 := Lib.hid (HB.out.trans (hb3.mono HB.out.size))
      have HN3 : Hid (Nats .u64 w3 (some ⟨g, 0, none⟩) ls) := Lib.hid (by
        have h1 := HO.out
        rw [filled_all] at h1
        have h2 : wr.ownsRow w.heap.size 40 1 (.slice (some ⟨g, 0, none⟩) ls.length j) ls.length (nvals ls) := by rw [hll]; exact h1
        exact (nats_of_own h2).below hb3)
      clear hb3
      cases hbb : (gg || b) with
      | true =>
        rw [hbb] at hf'
        obtain ⟨x, rfl⟩ := hf'.yes
        have HE : Hid (∀ xs, rdn s.data.toList j ≠ .ok (xs, s.size, false)) := Lib.hid fun ys hy => by
          rw [HRD.out] at hy
          simp at hy
          obtain ⟨_, rfl, rfl⟩ := hy
          have := HGG.out
          rw [Bool.or_false] at hbb
          rw [hbb] at this
          simp at this
        clear hf' hbb
        go_wp2_with fail
        go_ret2
        exact dg_bad HB3.out HE.out x
      | false =>
        rw [hbb] at hf'
        obtain rfl := hf'.no
        have HE : Hid (rdn s.data.toList j = .ok (xs, s.size, false)) := Lib.hid (by
          have h1 := HGG.out
          have h2 : gg = false ∧ b = false := by simpa using hbb
          rw [h2.1] at h1
          have h3 : q = s.size := by simp at h1; omega
          rw [HRD.out, h3, h2.2])
        clear hf' hbb
        go_wp2_with fail
        go_ret2
        exact ⟨HB3.out, .inl ⟨xs, HE.out, _, _, rfl, Nat.le_refl _, (fun h => by cases h), by rw [HD.out]; exact HN3.out, by rw [HD.out]; exact hll⟩⟩
end Go.Proofs.YtkpljnfakidjeaaDoor
