/-
  hygref18.GetRuns; hyglaw22.RunsGets: for any bytes and any count the law returns true.
-/
import Derived.Test.YtihoemimiplhfaaDoorRunsRefMath
import Derived.Test.YtihoemimiplhfaaDoorRunsRef
import Derived.Test.YtihoemimiplhfaaDoorManyBase
namespace Go.Proofs.YtihoemimiplhfaaDoor
open Go.RowKit

def RRGPost (s : ByteArray) (c : Nat) (w : World) (e : Ending) (w' : World) : Prop :=
  Below w.heap.size w w' ∧ ((∃ ps, GoodR s c ps ∧ ∃ ao cap, e = .returned (.tuple #[.slice ao c cap, .bool true]) ∧ Nats .u64 w' ao (expR ps)) ∨
    ((∀ ps, ¬ GoodR s c ps) ∧ e = .returned (.tuple #[.slice none 0 0, .bool false])))
theorem rrput_len (ao : Option Addr) (cap : Nat) (l : List Nat) (n : Nat) (w : World) (hn : l.length = n) (hN : Nats .u64 w ao l) (hlt : Hid (∀ n ∈ l, n < 18446744073709551616)) (hl : n ≤ 20000) {S : ByteArray} (hS : Hid ((⟨(vputs (flatR (runsOf l))).toArray⟩ : ByteArray) = S)) :
    Calls Tryd.prog 51 #[.slice ao n cap] w fun e w' => e = .returned (.tuple #[.string S, .int .i64 0]) ∧ Below w.heap.size w w' := by
  subst hn; exact rrput_any ao cap l w hN hlt hl hS
theorem own_out {w : World} {base : Nat} {e : TypeId} {v : Value} {n : Nat} {ls : List Nat} (h : w.ownsRow base e 1 v n (nvals ls)) (hn : ls.length = n) : ∃ ao cap, v = .slice ao n cap ∧ Nats .u64 w ao ls := by
  obtain ⟨ao, cap, rfl⟩ := own_slice h
  subst hn
  exact ⟨ao, cap, rfl, nats_of_own h⟩
set_option maxRecDepth 1000000 in
set_option maxHeartbeats 8000000 in
theorem rrget_any (s : ByteArray) (c : Nat) (w : World) (hs : s.size ≤ 1000000) (hc : c ≤ 20000) :
    Calls Tryd.prog 18 #[.string s, .int .i64 c] w (RRGPost s c w) := by
  go_enter Tryd.func18, Tryd.ntmps18
  go_wp2_with fail
  refine (rvs_any s w hs).mono ?_; rintro e w1 ⟨hb1, hpost⟩
  have HB1 := Lib.hid hb1
  clear hb1
  rcases hpost with ⟨v, b, vo, vcap, hrd, rfl, hvn⟩ | ⟨j, xs, q, b, cc, hrd, hq, hv, rfl⟩
  case inr =>
    have hc0 : ((cc : Int) != 0) = true := by have := vget_codes hv; simp; omega
    have HE : Hid (∀ g, ¬ GoodR s c g) := Lib.hid (rd_dead hrd hq hv)
    clear hrd hq hv
    go_wp2_with fail
    go_ret2
    exact ⟨HB1.out, .inr ⟨HE.out, rfl⟩⟩
  have hvl := (rdn_facts hrd).2.1
  have hvs := (rdn_facts hrd).2.2.1
  rw [show s.data.toList.length = s.size by simp] at hvs
  have hvm : v.length ≤ 1000000 := by omega
  clear hvl hvs
  by_cases hodd : v.length % 2 ≠ 0
  · have HE : Hid (∀ g, ¬ GoodR s c g) := Lib.hid (rd_odd hrd hodd)
    have hc0 : ((v.length : Int) % 2 != 0) = true := by simp; omega
    have hc1 : ((v.length : Int).tmod 2 != 0) = true := by rw [Int.tmod_eq_emod_of_nonneg (by omega)]; exact hc0
    clear hrd hvn hodd
    go_wp2_with fail
    go_ret2
    exact ⟨HB1.out, .inr ⟨HE.out, rfl⟩⟩
  obtain ⟨K, hK⟩ : ∃ K, v.length = 2 * K := ⟨v.length / 2, by omega⟩
  have hc0 : ((v.length : Int) % 2 != 0) = false := by simp; omega
  have hc1 : ((v.length : Int).tmod 2 != 0) = false := by rw [Int.tmod_eq_emod_of_nonneg (by omega)]; exact hc0
  have hvlt : ∀ n ∈ v, n < 18446744073709551616 := (rdn_facts hrd).2.2.2.1
  have HVL := Lib.hid hvlt
  have HRD := Lib.hid hrd
  have HVN := Lib.hid hvn
  have HK := Lib.hid hK
  clear hrd hvn hvlt hodd hK
  go_wp2_with fail
  go_loopg [8, 9] K (fun k vo' i wr => ∃ (j e : Nat) (ls : List Nat), j + k = K ∧ Hid (e = 2 * j) ∧ i = .int .i64 (e : Nat) ∧ Hid (expR ((pairs2 v).take j) = ls) ∧ ls.length ≤ c ∧ wr.ownsRow w1.heap.size 40 1 vo' ls.length (nvals ls) ∧ Below w1.heap.size w1 wr)
  case atStart => exact ⟨0, 0, [], by omega, Lib.hid rfl, rfl, Lib.hid rfl, Nat.zero_le _, World.ownsRow_nil _ _ _ _, Below.refl _ _⟩
  case round =>
    obtain ⟨j, e, ls, hj, HEQ, rfl, HD, hlc, hown, hb1r⟩ := hrel
    have HBV := Lib.hid hb1r
    have hbs : w1.heap.size ≤ wr.heap.size := hb1r.size
    obtain ⟨ao, cap, rfl⟩ := own_slice hown
    have HO := Lib.hid hown
    have HJ := Lib.hid hj
    clear hb1r hown hj
    by_cases hlt : e < v.length
    · have hjK : j < K := by have := HEQ.out; have := HK.out; omega
      have HJK := Lib.hid hjK
      have h1 : e + 1 < v.length := by have := HEQ.out; have := HK.out; omega
      obtain ⟨bb, off, n, HN, rfl, hbw, hcellw⟩ := HVN.out.at hlt
      obtain ⟨b2, off2, m, HM, hao, hbw2, hcellw2⟩ := HVN.out.at h1
      simp only [Option.some.injEq, Addr.mk.injEq, and_true] at hao
      obtain ⟨rfl, rfl⟩ := hao
      have hn : n < 18446744073709551616 := by rw [HN.out]; exact HVL.out _ (List.getElem_mem _)
      have hm : m < 18446744073709551616 := by rw [HM.out]; exact HVL.out _ (List.getElem_mem _)
      have HP : Hid ((pairs2 v)[j]? = some (n, m)) := Lib.hid (by rw [pairs2_at K v j HK.out hjK, HN.out, HM.out]; simp only [← HEQ.out])
      have hi1 : (e : Int) < (v.length : Int) := by omega
      have hi0 : (0 : Int) ≤ (e : Int) := by omega
      have hi2 : (e : Int) + 1 < (v.length : Int) := by omega
      obtain ⟨e1, he1⟩ : ∃ e1, e + 1 = e1 := ⟨_, rfl⟩
      have hei : (e : Int) + 1 = (e1 : Int) := by omega
      rw [he1] at hcellw2
      have hcell : wr.cell? ⟨bb, off + e, none⟩ = some (.int .u64 (n : Int)) := (HBV.out.cell (p := ⟨bb, off + e, none⟩) hbw).trans hcellw
      have hcell2 : wr.cell? ⟨bb, off + e1, none⟩ = some (.int .u64 (m : Int)) := (HBV.out.cell (p := ⟨bb, off + e1, none⟩) hbw).trans hcellw2
      have hi3 : (e1 : Int) < (v.length : Int) := by omega
      have he19 : e1 < 1000000 := by omega
      have HEE := Lib.hid he1
      obtain ⟨rem, hrem⟩ : ∃ rem : Nat, c - ls.length = rem := ⟨_, rfl⟩
      have hremi : (c : Int) - (ls.length : Int) = (rem : Int) := by omega
      have hrem9 : rem ≤ 20000 := by omega
      have HREM := Lib.hid hrem
      clear HN HM hlt h1 he1 hjK
      by_cases hover : rem ≤ m
      · have HE : Hid (∀ g, ¬ GoodR s c g) := Lib.hid (rd_over HRD.out HK.out HP.out HD.out (by omega))
        clear hcell
        go_wp2_with fail
        go_ret2
        exact ⟨(dstep HB1.out HBV.out), .inr ⟨HE.out, rfl⟩⟩
      · have hm9 : m < 20000 := by omega
        have HLC : Hid (ls.length + m + 1 ≤ c) := Lib.hid (by omega)
        obtain ⟨gk0, HGK⟩ : ∃ gk0, Hid (gk = gk0) := ⟨_, Lib.hid rfl⟩
        go_wp2_with fail
        go_loopg [8, 10] (m + 1) (fun k v' i wr2 => ∃ (t : Nat), t + k = m + 1 ∧ i = .int .i64 t ∧ wr2.ownsRow w1.heap.size 40 1 v' (ls.length + t) (nvals (ls ++ List.replicate t n)) ∧ Below w1.heap.size w1 wr2)
        case atStart => exact ⟨0, by omega, rfl, by simpa using HO.out, HBV.out⟩
        case round =>
          obtain ⟨t, htk, rfl, hown2, hb2⟩ := hrel
          have HB2 := Lib.hid hb2
          have HTK := Lib.hid htk
          have hbs2 : w1.heap.size ≤ wr.heap.size := hb2.size
          obtain ⟨ao2, cap2, rfl⟩ := own_slice hown2
          have ht9 : t ≤ 20001 := by omega
          have hll : ls.length + t ≤ 50000 := by omega
          have hcell4 : wr.cell? ⟨bb, off + e, none⟩ = some (.int .u64 (n : Int)) := (HB2.out.cell (p := ⟨bb, off + e, none⟩) hbw).trans hcellw
          have hcell5 : wr.cell? ⟨bb, off + e1, none⟩ = some (.int .u64 (m : Int)) := (HB2.out.cell (p := ⟨bb, off + e1, none⟩) hbw).trans hcellw2
          clear hb2 htk
          by_cases htm : t ≤ m
          · go_wp2_with (at_builtin; refine wpList_app1 (c := 1) (cs := [.int .u64 (n : Int)]) rfl _ _ 22 rfl Tryd.elU64r (by decide) hown2 rfl (by show Value.slice (some ⟨wr.heap.size, 0, none⟩) 1 1 = _; simp) rfl (by simp [Value.oneCell']) (by unfold maxLen; omega) (by omega) hbs2 ?_; intro v' w2 hown' hgrow)
            have HB3 : Hid (Below w1.heap.size w1 w2) := Lib.hid (HB2.out.grown hgrow hbs2 (fun k hk => (hown2.lt _ hk).1))
            have HO3 : Hid (w2.ownsRow w1.heap.size 40 1 v' (ls.length + (t + 1)) (nvals (ls ++ List.replicate (t + 1) n))) := Lib.hid (by
              have e : nvals (ls ++ List.replicate (t + 1) n) = nvals (ls ++ List.replicate t n) ++ [.int .u64 (n : Int)] := by rw [rep_snoc]; simp [nvals]
              rw [e]; exact hown')
            go_wp2_with fail
            have htk := HTK.out
            go_roundg (gk - 1)
            case measure => omega
            case rel => exact ⟨t + 1, by omega, by simp, HO3.out, HB3.out⟩
          · have HO3 := Lib.hid hown2
            clear hown2
            go_wp2_with fail
            have htm1 : t = m + 1 := by have := HTK.out; omega
            subst htm1
            have hgk0 := HGK.out
            have hJ := HJ.out
            have hJK := HJK.out
            go_roundg (gk0 - 1)
            case measure => omega
            case rel =>
              have hlen : (ls ++ List.replicate (m + 1) n).length = ls.length + (m + 1) := by simp
              exact ⟨j + 1, e + 2, ls ++ List.replicate (m + 1) n, by omega, Lib.hid (by have := HEQ.out; omega), by simp, Lib.hid (by rw [expR_take HP.out, HD.out]), by have := HLC.out; omega, by rw [hlen]; exact HO3.out, HB2.out⟩
    · have hjK : j = K := by have := HEQ.out; have := HK.out; have := HJ.out; omega
      have he : e = v.length := by have := HEQ.out; have := HK.out; omega
      have hDD : expR (pairs2 v) = ls := by
        rw [← HD.out, List.take_of_length_le (by rw [pairs2_length HK.out]; omega)]
      have hall : ∀ n ∈ ls, n < 18446744073709551616 := by
        intro n hn
        rw [← hDD] at hn
        unfold expR at hn
        obtain ⟨p, hp, hnp⟩ := List.mem_flatMap.1 hn
        have hnp2 : n = p.1 := (List.mem_replicate.1 hnp).2
        have hf : p.1 ∈ flatR (pairs2 v) := by unfold flatR; exact List.mem_flatMap.2 ⟨p, hp, by simp⟩
        rw [flatR_pairs2 K v HK.out] at hf
        rw [hnp2]
        exact HVL.out _ hf
      obtain ⟨S, hS⟩ : ∃ S, (⟨(vputs (flatR (runsOf ls))).toArray⟩ : ByteArray) = S := ⟨_, rfl⟩
      have HS := Lib.hid hS
      have HLT := Lib.hid hall
      have HG := Lib.hid (rd_good HRD.out HK.out hDD hall hc)
      have HNO : Hid (Nats .u64 wr ao ls) := Lib.hid (nats_of_own HO.out)
      have HB := Lib.hid (dstep HB1.out HBV.out)
      obtain ⟨L, hL⟩ : ∃ L, ls.length = L := ⟨_, rfl⟩
      rw [hL] at hlc ⊢
      have HLL := Lib.hid hL
      have hL2 : (L : Int) ≤ c := by omega
      have hi1 : ¬ (e : Int) < (v.length : Int) := by omega
      clear hS hall hDD hjK he hL
      by_cases hyes : S = s ∧ L = c
      · obtain ⟨hy1, hy2⟩ := hyes
        have HGG : Hid (GoodR s c (runsOf ls)) := Lib.hid (HG.out.1 ⟨by rw [HS.out]; exact hy1, by rw [HLL.out]; exact hy2⟩)
        subst hy1
        subst hy2
        go_wp2_with fail
        refine (rrput_len ao cap ls _ _ HLL.out HNO.out HLT (by omega) HS).mono ?_; rintro e w3 ⟨rfl, hb3⟩
        have HB3 := Lib.hid (dstep HB.out hb3)
        have HN3 := Lib.hid (HNO.out.below hb3)
        clear hb3
        go_wp2_with fail
        go_ret2
        exact ⟨HB3.out, .inl ⟨_, HGG.out, ao, cap, rfl, by rw [expR_runsOf]; exact HN3.out⟩⟩
      · have HE : Hid (∀ g, ¬ GoodR s c g) := Lib.hid (HG.out.2 (by rw [HS.out, HLL.out]; exact hyes))
        by_cases hSs : S = s
        · have hLc : ¬ L = c := fun h => hyes ⟨hSs, h⟩
          have hne : ((L : Int) != (c : Int)) = true := by simp; omega
          subst hSs
          clear hyes
          go_wp2_with fail
          refine (rrput_len ao cap ls _ _ HLL.out HNO.out HLT (by omega) HS).mono ?_; rintro e w3 ⟨rfl, hb3⟩
          have HB3 := Lib.hid (dstep HB.out hb3)
          clear hb3
          go_wp2_with fail
          go_ret2
          exact ⟨HB3.out, .inr ⟨HE.out, rfl⟩⟩
        · have hnb : (S.toList == s.toList) = false := by
            rw [beq_eq_false_iff_ne, ByteArray.toList_eq, ByteArray.toList_eq]
            intro h
            exact hSs (ByteArray.ext (Array.ext' h))
          clear hyes
          go_wp2_with fail
          refine (rrput_len ao cap ls _ _ HLL.out HNO.out HLT (by omega) HS).mono ?_; rintro e w3 ⟨rfl, hb3⟩
          have HB3 := Lib.hid (dstep HB.out hb3)
          clear hb3
          go_wp2_with fail
          go_ret2
          exact ⟨HB3.out, .inr ⟨HE.out, rfl⟩⟩
theorem rrget_range (s : ByteArray) (c : Int) (w : World) (hc : c < 0 ∨ 20000 < c) :
    Calls Tryd.prog 18 #[.string s, .int .i64 c] w fun e w' => e = .returned (.tuple #[.slice none 0 0, .bool false]) ∧ w = w' := by
  rcases (by omega : c < 0 ∨ (¬ c < 0 ∧ 20000 < c)) with h | ⟨h, h2⟩
  · go_enter Tryd.func18, Tryd.ntmps18
    go_wp2_with fail
    go_ret2
    exact ⟨rfl, rfl⟩
  · go_enter Tryd.func18, Tryd.ntmps18
    go_wp2_with fail
    go_ret2
    exact ⟨rfl, rfl⟩
theorem rgrange (s : ByteArray) (c : Int) (w : World) (hc : c < 0 ∨ 20000 < c) :
    Calls Tryd.prog 17 #[.string s, .int .i64 c] w fun e w' => e = .returned (.tuple #[.slice none 0 0, .iface 103 (.pointer (some ⟨w.heap.size, 0, none⟩))]) ∧ w' = w.alloc (.cells #[.int .i64 0, .iface 29 (.int .i64 9)] 105) := by
  rcases (by omega : c < 0 ∨ (¬ c < 0 ∧ 20000 < c)) with h | ⟨h, h2⟩
  · go_enter Tryd.func17, Tryd.ntmps17
    go_wp2_with fail
    refine (at_any _ _ _ _).mono ?_; rintro e w' ⟨rfl, rfl⟩
    go_wp2_with fail
    go_ret2
    exact ⟨rfl, rfl⟩
  · go_enter Tryd.func17, Tryd.ntmps17
    go_wp2_with fail
    refine (at_any _ _ _ _).mono ?_; rintro e w' ⟨rfl, rfl⟩
    go_wp2_with fail
    go_ret2
    exact ⟨rfl, rfl⟩
theorem nums_none (w : World) : Calls Tryd.prog 13 #[.slice none 0 0, .slice none 0 0] w fun e w' => e = .returned (.bool true) ∧ Below w.heap.size w w' :=
  nums_same none none 0 0 [] w (fun h => absurd rfl h) (fun h => absurd rfl h) (by simp)
theorem rrget_ok (s : ByteArray) (c : Nat) (w : World) (hs : s.size ≤ 1000000) (hc : c ≤ 20000) {ps : List (Nat × Nat)} {ls : List Nat} (hr : Hid (GoodR s c ps)) (hl : Hid (expR ps = ls)) :
    Calls Tryd.prog 18 #[.string s, .int .i64 c] w fun e w' => Below w.heap.size w w' ∧ ∃ ao cap, e = .returned (.tuple #[.slice ao c cap, .bool true]) ∧ Nats .u64 w' ao ls ∧ ls.length = c :=
  (rrget_any s c w hs hc).mono fun e w' ⟨hb, h⟩ => by
    refine ⟨hb, ?_⟩
    rcases h with ⟨ys, hy, ao, cap, he, h3⟩ | ⟨hn, _⟩
    · have := good_one hr.out hy
      subst this
      have h4 := hy.2.2.1
      rw [hl.out] at h3 h4
      exact ⟨ao, cap, he, h3, h4⟩
    · exact absurd hr.out (hn ps)
theorem rrget_no (s : ByteArray) (c : Nat) (w : World) (hs : s.size ≤ 1000000) (hc : c ≤ 20000) (hr : Hid (∀ ps, ¬ GoodR s c ps)) :
    Calls Tryd.prog 18 #[.string s, .int .i64 c] w fun e w' => Below w.heap.size w w' ∧ e = .returned (.tuple #[.slice none 0 0, .bool false]) :=
  (rrget_any s c w hs hc).mono fun e w' ⟨hb, h⟩ => by
    refine ⟨hb, ?_⟩
    rcases h with ⟨ys, hy, _⟩ | ⟨_, h2⟩
    · exact absurd hy (hr.out ys)
    · exact h2
set_option maxRecDepth 1000000 in
set_option maxHeartbeats 4000000 in
theorem gets_long (s : ByteArray) (c : Int) (w : World) (hs : 4000 < s.size) (hm : s.size ≤ 9223372036854775807) :
    Calls Tryd.prog 6 #[.string s, .int .i64 c] w fun e w' => e = .returned (.bool true) ∧ Below w.heap.size w w' := by
  go_enter Tryd.func6, Tryd.ntmps6
  go_wp2_with fail
  refine (first22 w).mono ?_; rintro e w1 ⟨rfl, hb1⟩
  have HB1 := Lib.hid hb1
  clear hb1
  go_wp2_with fail
  refine (first22 w1).mono ?_; rintro e w2 ⟨rfl, hb2⟩
  have HB2 := Lib.hid (dstep HB1.out hb2)
  clear hb2
  go_wp2_with fail
  go_ret
  exact ⟨rfl, HB2.out⟩
set_option maxRecDepth 1000000 in
set_option maxHeartbeats 4000000 in
theorem gets_range (s : ByteArray) (c : Int) (w : World) (hs : s.size ≤ 4000) (hg : Hid (Glob w)) (hc : Hid (c < 0 ∨ 20000 < c)) (hx : (decide (c ≥ 0) = false) ∨ (decide (c ≥ 0) = true ∧ decide (c ≤ 20000) = false)) :
    Calls Tryd.prog 6 #[.string s, .int .i64 c] w fun e w' => e = .returned (.bool true) ∧ Below w.heap.size w w' := by
  rcases hx with hx | ⟨hx, hx2⟩ <;>
  · go_enter Tryd.func6, Tryd.ntmps6
    go_wp2_with fail
    refine (first22 w).mono ?_; rintro e w1 ⟨rfl, hb1⟩
    have HB1 := Lib.hid (dstep hb1 (below_new0 w1 (.cells #[.int .i64 0, .iface 29 (.int .i64 9)] 105)))
    have HC1 := Lib.hid (codeIs_alloc w1 0 9)
    clear hb1
    go_wp2_with fail
    refine (rgrange s c _ hc.out).mono ?_; rintro e w' ⟨rfl, rfl⟩
    go_wp2_with fail
    refine (rrget_range s c _ hc.out).mono ?_; rintro e w' ⟨rfl, rfl⟩
    go_wp2_with fail
    refine (first22 _).mono ?_; rintro e w2 ⟨rfl, hb2⟩
    have HB2 := Lib.hid (dstep HB1.out hb2)
    have HC2 := Lib.hid (HC1.out.below hb2)
    clear hb2
    go_wp2_with fail
    refine (nums_none _).mono ?_; rintro e w3 ⟨rfl, hb3⟩
    have HB3 := Lib.hid (dstep HB2.out hb3)
    have HC3 := Lib.hid (HC2.out.below hb3)
    clear hb3
    go_wp2_with fail
    refine (codeIs_any _ 9 _ HC3.out (hg.out.below HB3.out)).mono ?_; rintro e w4 ⟨rfl, hb4⟩
    have HB4 := Lib.hid (dstep HB3.out hb4)
    clear hb4
    go_wp2_with fail
    go_ret
    exact ⟨rfl, HB4.out⟩
set_option maxRecDepth 1000000 in
set_option maxHeartbeats 4000000 in
theorem gets_no (s : ByteArray) (c : Nat) (w : World) (hs : s.size ≤ 4000) (hc : c ≤ 20000) (hr : Hid (∀ ps, ¬ GoodR s c ps)) :
    Calls Tryd.prog 6 #[.string s, .int .i64 c] w fun e w' => e = .returned (.bool true) ∧ Below w.heap.size w w' := by
  go_enter Tryd.func6, Tryd.ntmps6
  go_wp2_with fail
  refine (first22 w).mono ?_; rintro e w1 ⟨rfl, hb1⟩
  have HB1 := Lib.hid hb1
  clear hb1
  go_wp2_with fail
  refine (rget_no s c _ (by omega) hc hr).mono ?_; rintro e w2 ⟨hb2, x, rfl⟩
  have HB2 := Lib.hid (dstep HB1.out hb2)
  clear hb2
  go_wp2_with fail
  refine (rrget_no s c _ (by omega) hc hr).mono ?_; rintro e w3 ⟨hb3, rfl⟩
  have HB3 := Lib.hid (dstep HB2.out hb3)
  clear hb3
  go_wp2_with fail
  refine (first22 _).mono ?_; rintro e w4 ⟨rfl, hb4⟩
  have HB4 := Lib.hid (dstep HB3.out hb4)
  clear hb4
  go_wp2_with fail
  refine (nums_none _).mono ?_; rintro e w5 ⟨rfl, hb5⟩
  have HB5 := Lib.hid (dstep HB4.out hb5)
  clear hb5
  go_wp2_with fail
  go_ret
  exact ⟨rfl, HB5.out⟩
set_option maxRecDepth 1000000 in
set_option maxHeartbeats 4000000 in
theorem gets_ok (s : ByteArray) (c : Nat) (w : World) (hs : s.size ≤ 4000) (hc : c ≤ 20000) {ps : List (Nat × Nat)} {ls : List Nat} (hr : Hid (GoodR s c ps)) (hl : Hid (expR ps = ls)) :
    Calls Tryd.prog 6 #[.string s, .int .i64 c] w fun e w' => e = .returned (.bool true) ∧ Below w.heap.size w w' := by
  go_enter Tryd.func6, Tryd.ntmps6
  go_wp2_with fail
  refine (first22 w).mono ?_; rintro e w1 ⟨rfl, hb1⟩
  have HB1 := Lib.hid hb1
  clear hb1
  go_wp2_with fail
  refine (rget_ok s c _ (by omega) hc hr hl).mono ?_; rintro e w2 ⟨hb2, ao, cap, rfl, h3, h4⟩
  have HB2 := Lib.hid (dstep HB1.out hb2)
  have HN2 := Lib.hid h3
  have HLn := Lib.hid h4
  clear hb2 h3 h4
  go_wp2_with fail
  refine (rrget_ok s c _ (by omega) hc hr hl).mono ?_; rintro e w3 ⟨hb3, bo, bcap, rfl, h3, h4⟩
  have HB3 := Lib.hid (dstep HB2.out hb3)
  have HN3 := Lib.hid (HN2.out.below hb3)
  have HM3 := Lib.hid h3
  clear hb3 h3 h4
  go_wp2_with fail
  refine (first22 _).mono ?_; rintro e w4 ⟨rfl, hb4⟩
  have HB4 := Lib.hid (dstep HB3.out hb4)
  have HN4 := Lib.hid (HN3.out.below hb4)
  have HM4 := Lib.hid (HM3.out.below hb4)
  clear hb4
  go_wp2_with fail
  refine (nums_len _ _ _ _ ls c _ HLn.out HN4.out HM4.out (by omega)).mono ?_; rintro e w5 ⟨rfl, hb5⟩
  have HB5 := Lib.hid (dstep HB4.out hb5)
  clear hb5
  go_wp2_with fail
  go_ret
  exact ⟨rfl, HB5.out⟩
theorem gets_walk22 (s : ByteArray) (c : Int) (w : World) (hm : s.size ≤ 9223372036854775807) (hg : Glob w) :
    Calls Tryd.prog 6 #[.string s, .int .i64 c] w fun e w' => e = .returned (.bool true) ∧ Below w.heap.size w w' := by
  by_cases h1 : 4000 < s.size
  · exact gets_long s c w h1 hm
  by_cases h2 : c < 0 ∨ 20000 < c
  · refine gets_range s c w (by omega) (Lib.hid hg) (Lib.hid h2) ?_
    by_cases h3 : c ≥ 0
    · exact .inr ⟨decide_eq_true h3, decide_eq_false (by omega)⟩
    · exact .inl (decide_eq_false h3)
  obtain ⟨n, rfl⟩ := Int.eq_ofNat_of_zero_le (show 0 ≤ c by omega)
  by_cases h3 : ∃ ps, GoodR s n ps
  · obtain ⟨ps, hx⟩ := h3
    exact gets_ok s n w (by omega) (by omega) (Lib.hid hx) (Lib.hid rfl)
  · exact gets_no s n w (by omega) (by omega) (Lib.hid fun ps hx => h3 ⟨ps, hx⟩)
end Go.Proofs.YtihoemimiplhfaaDoor
