/-
  runs.Get.
-/
import Derived.Test.YtihoemimiplhfaaDoorRunsPut
import Derived.Test.YtihoemimiplhfaaDoorNatsApp
import Derived.Laws.OwnMore
namespace Go.Proofs.YtihoemimiplhfaaDoor
open Go.RowKit

theorem Tryd.elU64r : Elem Tryd.prog 22 40 (.int .u64 0) 1 8 := ⟨Tryd.underlying22, by kernel_rfl, by decide⟩
/-- what Get answers of a count that may be, and what it leaves -/
def RRPost (s : ByteArray) (c : Nat) (w : World) (e : Ending) (w' : World) : Prop :=
  Below w.heap.size w w' ∧ ((∃ ps, GoodR s c ps ∧ ∃ ao cap, e = .returned (.tuple #[.slice ao c cap, .nilIface]) ∧ Nats .u64 w' ao (expR ps)) ∨
    ((∀ ps, ¬ GoodR s c ps) ∧ ∃ x, e = .returned (.tuple #[.slice none 0 0, .iface 103 x])))
theorem rr_bad {s : ByteArray} {c : Nat} {w w' : World} (hb : Below w.heap.size w w') (h : ∀ ps, ¬ GoodR s c ps) (x : Value) : RRPost s c w (.returned (.tuple #[.slice none 0 0, .iface 103 x])) w' := ⟨hb, .inr ⟨h, x, rfl⟩⟩
/-- how far Get has come -/
structure RGAt (s : ByteArray) (ps : List (Nat × Nat)) (q : Nat) (b : Bool) (ls : List Nat) : Prop where
  rd : rdn s.data.toList (2 * ps.length) = .ok (flatR ps, q, b)
  ex : expR ps = ls
theorem rg_next {s : ByteArray} {q q1 q2 n m : Nat} {b : Bool} {ps : List (Nat × Nat)} {ls : List Nat} (h : RGAt s ps q b ls) (h1 : vget s.data.toList (q : Int) = .ok (n, q1)) (h2 : vget s.data.toList (q1 : Int) = .ok (m, q2)) :
    RGAt s (ps ++ [(n, m)]) q2 (b || decide ((vput n).length < q1 - q) || decide ((vput m).length < q2 - q1)) (ls ++ List.replicate (m + 1) n) := by
  refine ⟨?_, ?_⟩
  · have e : 2 * (ps ++ [(n, m)]).length = 2 * ps.length + 1 + 1 := by simp; omega
    rw [e, rdn_step (rdn_step h.rd h1) h2, flatR_append]
    simp [flatR]
  · rw [expR_append, h.ex]; simp [expR]
theorem rg_room {s : ByteArray} {c q q1 q2 n m : Nat} {b : Bool} {ps : List (Nat × Nat)} {ls : List Nat} (h : RGAt s ps q b ls) (h1 : vget s.data.toList (q : Int) = .ok (n, q1)) (h2 : vget s.data.toList (q1 : Int) = .ok (m, q2)) {g : List (Nat × Nat)} (hg : GoodR s c g) : ls.length + m + 1 ≤ c := by
  obtain ⟨rest, e1, _, _⟩ := good_prefix hg h.rd
  have hx := (rg_next h h1 h2)
  obtain ⟨rest2, e2, _, _⟩ := good_prefix hg hx.rd
  have := hg.2.2.1
  rw [e2, expR_append, hx.ex] at this
  simp at this
  omega
theorem rg_first {s : ByteArray} {c q cc : Nat} {b : Bool} {ps : List (Nat × Nat)} {ls : List Nat} (h : RGAt s ps q b ls) (hl : ls.length < c) (h1 : vget s.data.toList (q : Int) = .error cc) (g : List (Nat × Nat)) : ¬ GoodR s c g := fun hg => by
  obtain ⟨rest, e1, _, _⟩ := good_prefix hg h.rd
  cases rest with
  | nil =>
    have := hg.2.2.1
    rw [e1, List.append_nil, h.ex] at this
    omega
  | cons p r =>
    have hp := rdn_puts (flatR g) [] hg.2.2.2 (2 * ps.length + 1) (by rw [flatR_length, e1]; simp; omega)
    rw [List.append_nil, ← hg.2.1, rdn_stop h.rd h1] at hp
    simp at hp
theorem rg_second {s : ByteArray} {c q q1 n cc : Nat} {b : Bool} {ps : List (Nat × Nat)} {ls : List Nat} (h : RGAt s ps q b ls) (hl : ls.length < c) (h1 : vget s.data.toList (q : Int) = .ok (n, q1)) (h2 : vget s.data.toList (q1 : Int) = .error cc) (g : List (Nat × Nat)) : ¬ GoodR s c g := fun hg => by
  obtain ⟨rest, e1, _, _⟩ := good_prefix hg h.rd
  cases rest with
  | nil =>
    have := hg.2.2.1
    rw [e1, List.append_nil, h.ex] at this
    omega
  | cons p r =>
    have hp := rdn_puts (flatR g) [] hg.2.2.2 (2 * ps.length + 1 + 1) (by rw [flatR_length, e1]; simp; omega)
    rw [List.append_nil, ← hg.2.1, rdn_stop (rdn_step h.rd h1) h2] at hp
    simp at hp
theorem rg_good {s : ByteArray} {c : Nat} {b : Bool} {ps : List (Nat × Nat)} {ls : List Nat} (h : RGAt s ps s.size b ls) (hl : ls.length = c) (hf : (b || !adjR ps) = false) : GoodR s c ps := by
  simp at hf
  obtain ⟨f1, f2, f3, f4, f5⟩ := rdn_facts h.rd
  refine ⟨hf.2, ?_, by rw [h.ex, hl], f4⟩
  rw [← f5 hf.1, List.take_of_length_le (by simp)]
theorem rg_fault {s : ByteArray} {c q : Nat} {b : Bool} {ps : List (Nat × Nat)} {ls : List Nat} (h : RGAt s ps q b ls) (hl : ls.length = c) (hf : (decide (q < s.size) || (b || !adjR ps)) = true) (g : List (Nat × Nat)) : ¬ GoodR s c g := fun hg => by
  obtain ⟨rest, e1, e2, e3⟩ := good_prefix hg h.rd
  have hr : rest = [] := by
    cases rest with
    | nil => rfl
    | cons p r =>
      have := hg.2.2.1
      rw [e1, expR_append, h.ex] at this
      have h2 := @expR_pos p r
      simp at this
      omega
  rw [hr, List.append_nil] at e1
  subst e1
  have h3 : s.size = (vputs (flatR g)).length := by
    have := hg.2.1
    rw [← this]; simp
  rw [e2, hg.1, e3, h3] at hf
  simp at hf
theorem last_of (ls : List Nat) (h : ls ≠ []) : ∃ la, ls.getLast? = some la ∧ ls[ls.length - 1]? = some la := by
  refine ⟨ls.getLast h, List.getLast?_eq_some_getLast h, ?_⟩
  rw [List.getLast_eq_getElem]
  exact List.getElem?_eq_getElem _
theorem rep_snoc (ls : List Nat) (t n : Nat) : ls ++ List.replicate (t + 1) n = (ls ++ List.replicate t n) ++ [n] := by rw [List.replicate_succ', List.append_assoc]
set_option maxRecDepth 1000000 in
set_option maxHeartbeats 8000000 in
theorem rget_any (s : ByteArray) (c : Nat) (w : World) (hs : s.size ≤ 9223372036854775807) (hc : c ≤ 20000) :
    Calls Tryd.prog 17 #[.string s, .int .i64 c] w (RRPost s c w) := by
  obtain ⟨i0, hi, hz0, hz1, hz2⟩ := info_parts Tryd.elU64r.2.1
  go_enter Tryd.func17, Tryd.ntmps17
  go_wp2_with fail
  refine (snew_any s w).mono ?_; rintro e w1 ⟨rfl, hsr, hb1⟩
  have hw1 := hb1.size
  have hrl := row_lt hsr
  go_wp2_with (at_make; refine wpList_make_own _ rfl _ _ 22 rfl w1.heap.size 40 i0 (.int .u64 0) 1 Tryd.underlying22 hi hz0 hz1 _ _ _ c rfl rfl rfl (by rw [hz2]; omega) (by unfold maxLen; omega) (Nat.le_refl _) ?_; intro w2 hown hgrow)
  have hB2 : Below w.heap.size w w2 := hb1.grown hgrow hw1 (by simp)
  have hS2 : SR w.heap.size s 0 .nilIface w2 := (hgrow.block w.heap.size hrl (by simp)).trans hsr
  obtain ⟨B, hBB⟩ : ∃ B, w1.heap.size = B := ⟨_, rfl⟩
  rw [hBB] at hown hrl ⊢
  have hw2 : B ≤ w2.heap.size := by rw [← hBB]; exact hgrow.size
  have HO := Lib.hid hown
  have HB := Lib.hid hB2
  have HS := Lib.hid hS2
  have HR0 : Hid (w.heap.size < B) := Lib.hid hrl
  clear hown hB2 hS2 hgrow hsr hb1 hBB hw1 hrl
  go_wp2_with fail
  go_loopg [7] c (fun k v wr => ∃ (ls : List Nat) (ps : List (Nat × Nat)) (q : Nat) (b F : Bool) (f : Value) (ao : Option Addr) (cap : Nat), ls.length + k = c ∧ v = .slice ao ls.length cap ∧ Hid (RGAt s ps q b ls) ∧ Hid (F = (b || !adjR ps)) ∧ Hid (FV F f) ∧
    SR w.heap.size s q f wr ∧ wr.ownsRow B 40 1 (.slice ao ls.length cap) ls.length (nvals ls) ∧ Below w.heap.size w wr ∧ B ≤ wr.heap.size)
  case atStart => exact ⟨[], [], 0, false, false, .nilIface, _, _, by simp, rfl, Lib.hid ⟨rfl, rfl⟩, Lib.hid rfl, Lib.hid rfl, HS.out, HO.out, HB.out, hw2⟩
  case round =>
    obtain ⟨ls, ps, q, b, F, f, ao, cap, hlk, rfl, HG, HFe, HF, hsr, hown, hbr, hBw⟩ := hrel
    have hq : q ≤ s.size := by have := (rdn_facts HG.out.rd).2.2.1; simpa using this
    have hsz : s.data.toList.length = s.size := by simp
    have HS := Lib.hid hsr
    have HO := Lib.hid hown
    have HB := Lib.hid hbr
    clear hsr hown hbr
    by_cases hlt : ls.length < c
    · have hi1 : (ls.length : Int) < (c : Int) := by omega
      cases hv : vget s.data.toList (q : Int) with
      | error cc =>
        have HV := Lib.hid hv
        have HE : Hid (∀ g, ¬ GoodR s c g) := Lib.hid (rg_first HG.out hlt hv)
        clear hv
        go_wp2_with fail
        refine (snum_err w.heap.size s q f _ HS.out (by unfold maxLen; exact hs) HV.out).mono ?_; rintro e w3 ⟨⟨x, rfl⟩, hb3⟩
        have HB3 := Lib.hid (HB.out.trans (hb3.mono HB.out.size))
        clear hb3
        go_wp2_with fail
        go_ret2
        exact rr_bad HB3.out HE.out x
      | ok ne =>
        obtain ⟨n, q1⟩ := ne
        obtain ⟨g1, g2, g3, g4, g5⟩ := vget_inv hv
        have hq1 : q1 ≤ s.size := by omega
        obtain ⟨F1, hF1⟩ : ∃ F1, decide ((vput n).length < q1 - q) = F1 := ⟨_, rfl⟩
        have HF1 := Lib.hid hF1
        have HV := Lib.hid hv
        clear hv g2 g4 g5 hF1
        go_wp2_with fail
        refine (snum_ok w.heap.size s q F f _ HS.out HF.out (by unfold maxLen; exact hs) HV.out g3 (by omega) hq1 HF1).mono ?_; rintro e w3 ⟨rfl, f3, hf3, hsr3, hu3⟩
        have HS3 := Lib.hid hsr3
        have HFF3 := Lib.hid hf3
        have HO3 := Lib.hid (hu3.own HO.out (fun k hk h => by have h1 := (HO.out.lt k hk).1; have := HR0.out; omega))
        have HB3 := Lib.hid (HB.out.trans (hu3.below HB.out.size (fun k _ hk => by omega)))
        have hBw3 : B ≤ w3.heap.size := Nat.le_trans hBw hu3.size
        clear hsr3 hu3 hf3
        cases hv2 : vget s.data.toList (q1 : Int) with
        | error cc =>
          have HV2 := Lib.hid hv2
          have HE : Hid (∀ g, ¬ GoodR s c g) := Lib.hid (rg_second HG.out hlt HV.out hv2)
          clear hv2
          go_wp2_with fail
          refine (snum_err w.heap.size s q1 f3 _ HS3.out (by unfold maxLen; exact hs) HV2.out).mono ?_; rintro e w4 ⟨⟨x, rfl⟩, hb4⟩
          have HB4 := Lib.hid (HB3.out.trans (hb4.mono HB3.out.size))
          clear hb4
          go_wp2_with fail
          go_ret2
          exact rr_bad HB4.out HE.out x
        | ok ne2 =>
          obtain ⟨m, q2⟩ := ne2
          obtain ⟨k1, k2, k3, k4, k5⟩ := vget_inv hv2
          have hq2 : q2 ≤ s.size := by omega
          obtain ⟨F2, hF2⟩ : ∃ F2, decide ((vput m).length < q2 - q1) = F2 := ⟨_, rfl⟩
          have HF2 := Lib.hid hF2
          have HV2 := Lib.hid hv2
          have HN2 := Lib.hid (rg_next HG.out HV.out hv2)
          have HRM : Hid (∀ g, GoodR s c g → ls.length + m + 1 ≤ c) := Lib.hid fun g hg => rg_room HG.out HV.out hv2 hg
          clear hv2 k2 k4 k5 hF2
          go_wp2_with fail
          refine (snum_ok w.heap.size s q1 (F || F1) f3 _ HS3.out HFF3.out (by unfold maxLen; exact hs) HV2.out k3 (by omega) hq2 HF2).mono ?_; rintro e w4 ⟨rfl, f4, hf4, hsr4, hu4⟩
          have HS4 := Lib.hid hsr4
          have HFF4 := Lib.hid hf4
          have HO4 := Lib.hid (hu4.own HO3.out (fun k hk h => by have h1 := (HO3.out.lt k hk).1; have := HR0.out; omega))
          have HB4 := Lib.hid (HB3.out.trans (hu4.below HB3.out.size (fun k _ hk => by omega)))
          have hBw4 : B ≤ w4.heap.size := Nat.le_trans hBw3 hu4.size
          clear hsr4 hu4 hf4
          have hrem : (c : Int) - (ls.length : Int) = (gk : Int) := by omega
          by_cases hmk : gk ≤ m
          · have HE : Hid (∀ g, ¬ GoodR s c g) := Lib.hid fun g hg => by have := HRM.out g hg; omega
            go_wp2_with fail
            refine (swrong_any w.heap.size s q2 f4 2 _ HS4.out).mono ?_; rintro e w5 ⟨⟨x, rfl⟩, hb5⟩
            have HB5 := Lib.hid (HB4.out.trans (hb5.mono HB4.out.size))
            clear hb5
            go_wp2_with fail
            go_ret2
            exact rr_bad HB5.out HE.out x
          · have hmk2 : (m : Int) < (gk : Int) := by omega
            by_cases hL : 0 < ls.length
            · obtain ⟨g, gcap, hval, _, hg2, _⟩ := own_some HO4.out hL
              simp only [Value.slice.injEq, true_and] at hval
              obtain ⟨rfl, rfl⟩ := hval
              obtain ⟨la, hla1, hla2⟩ := last_of ls (fun h => by rw [h] at hL; simp at hL)
              obtain ⟨jj, hjj⟩ : ∃ jj, ls.length - 1 = jj := ⟨_, rfl⟩
              have hji : (ls.length : Int) - 1 = (jj : Int) := by omega
              have hjl : (jj : Int) < (ls.length : Int) := by omega
              have hce : w4.cell? ⟨g, jj, none⟩ = some (.int .u64 (la : Int)) := by
                rw [HO4.out.cellAt jj (by omega)]
                unfold nvals
                rw [List.getElem?_map, ← hjj, hla2]
                rfl
              by_cases hln : la = n
              · have he : ((la : Int) == (n : Int)) = true := by subst hln; simp
                have HAD : Hid (true = (b || decide ((vput n).length < q1 - q) || decide ((vput m).length < q2 - q1) || !adjR (ps ++ [(n, m)]))) := Lib.hid (by
                  rw [adjR_snoc, HG.out.ex, hla1, hln]; simp)
                go_wp2_with fail
                refine (sfault_any w.heap.size s q2 (F || F1 || F2) f4 _ HS4.out HFF4.out).mono ?_; rintro e w5 ⟨rfl, f5, hf5, hsr5, hu5⟩
                have HS5 := Lib.hid hsr5
                have HFF5 := Lib.hid hf5
                have HO5 := Lib.hid (hu5.own HO4.out (fun k hk h => by have h1 := (HO4.out.lt k hk).1; have := HR0.out; omega))
                have HB5 := Lib.hid (HB4.out.trans (hu5.below HB4.out.size (fun k _ hk => by omega)))
                have hBw5 : B ≤ w5.heap.size := Nat.le_trans hBw4 hu5.size
                clear hsr5 hu5 hf5
                go_wp2_with fail
                obtain ⟨gk0, HGK⟩ : ∃ gk0, Hid (gk = gk0) := ⟨_, Lib.hid rfl⟩
                go_loopg [7, 70] (m + 1) (fun k v i wr5 => ∃ (t : Nat) (ao : Option Addr) (cap : Nat), t + k = m + 1 ∧ i = .int .u64 t ∧ v = .slice ao (ls.length + t) cap ∧ SR w.heap.size s q2 f5 wr5 ∧ wr5.ownsRow B 40 1 (.slice ao (ls.length + t) cap) (ls.length + t) (nvals (ls ++ List.replicate t n)) ∧ Below w.heap.size w wr5 ∧ B ≤ wr5.heap.size)
                case atStart => exact ⟨0, _, _, by omega, rfl, rfl, HS5.out, by simpa using HO5.out, HB5.out, hBw5⟩
                case round =>
                  obtain ⟨t, ao2, cap2, htk, rfl, rfl, hsr6, hown6, hbr6, hBw6⟩ := hrel
                  have HS6 := Lib.hid hsr6
                  have HO6 := Lib.hid hown6
                  have HB6 := Lib.hid hbr6
                  have HTK := Lib.hid htk
                  by_cases htm : t < m + 1
                  · have hti : (t : Int) < (m : Int) + 1 := by omega
                    clear hsr6 hbr6 htk
                    go_wp2_with (at_builtin; refine wpList_app1 (c := 1) (cs := [.int .u64 (n : Int)]) rfl _ _ 22 rfl Tryd.elU64r (by decide) hown6 rfl (by show Value.slice (some ⟨_, 0, none⟩) 1 1 = _; simp) rfl (by simp [Value.oneCell']) (by unfold maxLen; omega) (by omega) hBw6 ?_; intro v' w7 hown7 hgrow7)
                    have HS7 : Hid (SR w.heap.size s q2 f5 w7) := Lib.hid ((hgrow7.block w.heap.size (row_lt HS6.out) (fun e => by have h1 := (hown6.lt _ e.symm).1; have := HR0.out; omega)).trans HS6.out)
                    have HB7 : Hid (Below w.heap.size w w7) := Lib.hid (HB6.out.grown hgrow7 HB6.out.size (fun k hk => by have h1 := (hown6.lt _ hk).1; have := HR0.out; omega))
                    have hBw7 : B ≤ w7.heap.size := Nat.le_trans hBw6 hgrow7.size
                    obtain ⟨ao3, cap3, rfl⟩ := own_slice hown7
                    have HO7 : Hid (w7.ownsRow B 40 1 (.slice ao3 (ls.length + (t + 1)) cap3) (ls.length + (t + 1)) (nvals (ls ++ List.replicate (t + 1) n))) := Lib.hid (by
                      have e : nvals (ls ++ List.replicate (t + 1) n) = nvals (ls ++ List.replicate t n) ++ [.int .u64 (n : Int)] := by rw [rep_snoc]; simp [nvals]
                      rw [e]; exact hown7)
                    go_wp2_with fail
                    have htk := HTK.out
                    go_roundg (gk - 1)
                    case measure => omega
                    case rel => exact ⟨t + 1, ao3, cap3, by omega, by simp, rfl, HS7.out, HO7.out, HB7.out, hBw7⟩
                  · have hti : ¬ (t : Int) < (m : Int) + 1 := by omega
                    have htm1 : t = m + 1 := by omega
                    clear hsr6 hbr6 htk hown6
                    go_wp2_with fail
                    subst htm1
                    have hgk0 := HGK.out
                    go_roundg (gk0 - (m + 1))
                    case measure => omega
                    case rel =>
                      have hlen : (ls ++ List.replicate (m + 1) n).length = ls.length + (m + 1) := by simp
                      refine ⟨ls ++ List.replicate (m + 1) n, ps ++ [(n, m)], q2, _, true, f5, ao2, cap2, by rw [hlen]; omega, by rw [hlen], HN2, HAD, HFF5, HS6.out, by rw [hlen]; exact HO6.out, HB6.out, hBw6⟩
              · have he : ((la : Int) == (n : Int)) = false := by simp; omega
                have HAD : Hid ((F || F1 || F2) = (b || decide ((vput n).length < q1 - q) || decide ((vput m).length < q2 - q1) || !adjR (ps ++ [(n, m)]))) := Lib.hid (by
                  have h1 : ¬ some la = some n := by simp; exact hln
                  rw [adjR_snoc, HG.out.ex, hla1, HFe.out, HF1.out, HF2.out]
                  simp only [h1, decide_false, Bool.not_false, Bool.and_true]
                  cases b <;> cases adjR ps <;> cases F1 <;> cases F2 <;> rfl)
                go_wp2_with fail
                obtain ⟨gk0, HGK⟩ : ∃ gk0, Hid (gk = gk0) := ⟨_, Lib.hid rfl⟩
                go_loopg [7, 70] (m + 1) (fun k v i wr5 => ∃ (t : Nat) (ao : Option Addr) (cap : Nat), t + k = m + 1 ∧ i = .int .u64 t ∧ v = .slice ao (ls.length + t) cap ∧ SR w.heap.size s q2 f4 wr5 ∧ wr5.ownsRow B 40 1 (.slice ao (ls.length + t) cap) (ls.length + t) (nvals (ls ++ List.replicate t n)) ∧ Below w.heap.size w wr5 ∧ B ≤ wr5.heap.size)
                case atStart => exact ⟨0, _, _, by omega, rfl, rfl, HS4.out, by simpa using HO4.out, HB4.out, hBw4⟩
                case round =>
                  obtain ⟨t, ao2, cap2, htk, rfl, rfl, hsr6, hown6, hbr6, hBw6⟩ := hrel
                  have HS6 := Lib.hid hsr6
                  have HO6 := Lib.hid hown6
                  have HB6 := Lib.hid hbr6
                  have HTK := Lib.hid htk
                  by_cases htm : t < m + 1
                  · have hti : (t : Int) < (m : Int) + 1 := by omega
                    clear hsr6 hbr6 htk
                    go_wp2_with (at_builtin; refine wpList_app1 (c := 1) (cs := [.int .u64 (n : Int)]) rfl _ _ 22 rfl Tryd.elU64r (by decide) hown6 rfl (by show Value.slice (some ⟨_, 0, none⟩) 1 1 = _; simp) rfl (by simp [Value.oneCell']) (by unfold maxLen; omega) (by omega) hBw6 ?_; intro v' w7 hown7 hgrow7)
                    have HS7 : Hid (SR w.heap.size s q2 f4 w7) := Lib.hid ((hgrow7.block w.heap.size (row_lt HS6.out) (fun e => by have h1 := (hown6.lt _ e.symm).1; have := HR0.out; omega)).trans HS6.out)
                    have HB7 : Hid (Below w.heap.size w w7) := Lib.hid (HB6.out.grown hgrow7 HB6.out.size (fun k hk => by have h1 := (hown6.lt _ hk).1; have := HR0.out; omega))
                    have hBw7 : B ≤ w7.heap.size := Nat.le_trans hBw6 hgrow7.size
                    obtain ⟨ao3, cap3, rfl⟩ := own_slice hown7
                    have HO7 : Hid (w7.ownsRow B 40 1 (.slice ao3 (ls.length + (t + 1)) cap3) (ls.length + (t + 1)) (nvals (ls ++ List.replicate (t + 1) n))) := Lib.hid (by
                      have e : nvals (ls ++ List.replicate (t + 1) n) = nvals (ls ++ List.replicate t n) ++ [.int .u64 (n : Int)] := by rw [rep_snoc]; simp [nvals]
                      rw [e]; exact hown7)
                    go_wp2_with fail
                    have htk := HTK.out
                    go_roundg (gk - 1)
                    case measure => omega
                    case rel => exact ⟨t + 1, ao3, cap3, by omega, by simp, rfl, HS7.out, HO7.out, HB7.out, hBw7⟩
                  · have hti : ¬ (t : Int) < (m : Int) + 1 := by omega
                    have htm1 : t = m + 1 := by omega
                    clear hsr6 hbr6 htk hown6
                    go_wp2_with fail
                    subst htm1
                    have hgk0 := HGK.out
                    go_roundg (gk0 - (m + 1))
                    case measure => omega
                    case rel =>
                      have hlen : (ls ++ List.replicate (m + 1) n).length = ls.length + (m + 1) := by simp
                      refine ⟨ls ++ List.replicate (m + 1) n, ps ++ [(n, m)], q2, _, (F || F1 || F2), f4, ao2, cap2, by rw [hlen]; omega, by rw [hlen], HN2, HAD, HFF4, HS6.out, by rw [hlen]; exact HO6.out, HB6.out, hBw6⟩
            · have hls : ls = [] := List.length_eq_zero_iff.1 (by omega)
              have HAD : Hid ((F || F1 || F2) = (b || decide ((vput n).length < q1 - q) || decide ((vput m).length < q2 - q1) || !adjR (ps ++ [(n, m)]))) := Lib.hid (by
                rw [adjR_snoc, HG.out.ex, hls, HFe.out, HF1.out, HF2.out]
                simp only [List.getLast?_nil]
                cases b <;> cases adjR ps <;> cases F1 <;> cases F2 <;> rfl)
              clear hls
              go_wp2_with fail
              obtain ⟨gk0, HGK⟩ : ∃ gk0, Hid (gk = gk0) := ⟨_, Lib.hid rfl⟩
              go_loopg [7, 70] (m + 1) (fun k v i wr5 => ∃ (t : Nat) (ao : Option Addr) (cap : Nat), t + k = m + 1 ∧ i = .int .u64 t ∧ v = .slice ao (ls.length + t) cap ∧ SR w.heap.size s q2 f4 wr5 ∧ wr5.ownsRow B 40 1 (.slice ao (ls.length + t) cap) (ls.length + t) (nvals (ls ++ List.replicate t n)) ∧ Below w.heap.size w wr5 ∧ B ≤ wr5.heap.size)
              case atStart => exact ⟨0, _, _, by omega, rfl, rfl, HS4.out, by simpa using HO4.out, HB4.out, hBw4⟩
              case round =>
                obtain ⟨t, ao2, cap2, htk, rfl, rfl, hsr6, hown6, hbr6, hBw6⟩ := hrel
                have HS6 := Lib.hid hsr6
                have HO6 := Lib.hid hown6
                have HB6 := Lib.hid hbr6
                have HTK := Lib.hid htk
                by_cases htm : t < m + 1
                · have hti : (t : Int) < (m : Int) + 1 := by omega
                  clear hsr6 hbr6 htk
                  go_wp2_with (at_builtin; refine wpList_app1 (c := 1) (cs := [.int .u64 (n : Int)]) rfl _ _ 22 rfl Tryd.elU64r (by decide) hown6 rfl (by show Value.slice (some ⟨_, 0, none⟩) 1 1 = _; simp) rfl (by simp [Value.oneCell']) (by unfold maxLen; omega) (by omega) hBw6 ?_; intro v' w7 hown7 hgrow7)
                  have HS7 : Hid (SR w.heap.size s q2 f4 w7) := Lib.hid ((hgrow7.block w.heap.size (row_lt HS6.out) (fun e => by have h1 := (hown6.lt _ e.symm).1; have := HR0.out; omega)).trans HS6.out)
                  have HB7 : Hid (Below w.heap.size w w7) := Lib.hid (HB6.out.grown hgrow7 HB6.out.size (fun k hk => by have h1 := (hown6.lt _ hk).1; have := HR0.out; omega))
                  have hBw7 : B ≤ w7.heap.size := Nat.le_trans hBw6 hgrow7.size
                  obtain ⟨ao3, cap3, rfl⟩ := own_slice hown7
                  have HO7 : Hid (w7.ownsRow B 40 1 (.slice ao3 (ls.length + (t + 1)) cap3) (ls.length + (t + 1)) (nvals (ls ++ List.replicate (t + 1) n))) := Lib.hid (by
                    have e : nvals (ls ++ List.replicate (t + 1) n) = nvals (ls ++ List.replicate t n) ++ [.int .u64 (n : Int)] := by rw [rep_snoc]; simp [nvals]
                    rw [e]; exact hown7)
                  go_wp2_with fail
                  have htk := HTK.out
                  go_roundg (gk - 1)
                  case measure => omega
                  case rel => exact ⟨t + 1, ao3, cap3, by omega, by simp, rfl, HS7.out, HO7.out, HB7.out, hBw7⟩
                · have hti : ¬ (t : Int) < (m : Int) + 1 := by omega
                  have htm1 : t = m + 1 := by omega
                  clear hsr6 hbr6 htk hown6
                  go_wp2_with fail
                  subst htm1
                  have hgk0 := HGK.out
                  go_roundg (gk0 - (m + 1))
                  case measure => omega
                  case rel =>
                    have hlen : (ls ++ List.replicate (m + 1) n).length = ls.length + (m + 1) := by simp
                    refine ⟨ls ++ List.replicate (m + 1) n, ps ++ [(n, m)], q2, _, (F || F1 || F2), f4, ao2, cap2, by rw [hlen]; omega, by rw [hlen], HN2, HAD, HFF4, HS6.out, by rw [hlen]; exact HO6.out, HB6.out, hBw6⟩
    · have hlc : ls.length = c := by omega
      obtain ⟨gg, hgg⟩ : ∃ gg, decide (q < s.size) = gg := ⟨_, rfl⟩
      have HGG := Lib.hid hgg
      have HNN : Hid (Nats .u64 wr ao ls) := Lib.hid (nats_of_own HO.out)
      clear hgg
      go_wp2_with fail
      refine (send_at w.heap.size s q F f _ HS.out HF.out HGG).mono ?_; rintro e w3 ⟨⟨f', rfl, hf'⟩, hb3⟩
      have HB3 := Lib.hid (HB.out.trans (hb3.mono HB.out.size))
      have HN3 := Lib.hid (HNN.out.below hb3)
      clear hb3
      cases hbb : (gg || F) with
      | true =>
        rw [hbb] at hf'
        obtain ⟨x, rfl⟩ := hf'.yes
        have HE : Hid (∀ g, ¬ GoodR s c g) := Lib.hid (rg_fault HG.out hlc (by rw [HGG.out, ← HFe.out]; exact hbb))
        clear hf' hbb
        go_wp2_with fail
        go_ret2
        exact rr_bad HB3.out HE.out x
      | false =>
        rw [hbb] at hf'
        obtain rfl := hf'.no
        have h2 : gg = false ∧ F = false := by simpa using hbb
        have HGO : Hid (GoodR s c ps) := Lib.hid (by
          have h1 := HGG.out
          rw [h2.1] at h1
          have h3 : q = s.size := by simp at h1; omega
          have hg := HG.out
          rw [h3] at hg
          exact rg_good hg hlc (by rw [← HFe.out]; exact h2.2))
        subst hlc
        clear hf' hbb h2
        go_wp2_with fail
        go_ret2
        exact ⟨HB3.out, .inl ⟨ps, HGO.out, ao, cap, rfl, by rw [HG.out.ex]; exact HN3.out⟩⟩
end Go.Proofs.YtihoemimiplhfaaDoor
