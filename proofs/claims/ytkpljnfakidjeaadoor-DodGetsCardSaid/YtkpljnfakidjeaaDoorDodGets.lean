/-
  hygref18.GetDod; hyglaw20.DodGets: for any bytes and any count the law returns true.
-/
import Derived.Test.YtkpljnfakidjeaaDoorDodRefGet
import Derived.Test.YtkpljnfakidjeaaDoorDodMany
namespace Go.Proofs.YtkpljnfakidjeaaDoor
open Go.RowKit

theorem rdn_prefix {l : List UInt8} {c : Nat} : ∀ (d : Nat) {xs : List Nat} {q : Nat} {b : Bool}, rdn l (c + d) = .ok (xs, q, b) → ∃ ys p e, rdn l c = .ok (ys, p, e) ∧ p + d ≤ q
  | 0, xs, q, b, h => ⟨xs, q, b, h, by omega⟩
  | d + 1, xs, q, b, h => by
    obtain ⟨ys, p, e, n, h1, h2, _, _⟩ := rdn_back (k := c + d) h
    obtain ⟨zs, r, f, h3, h4⟩ := rdn_prefix d h1
    have := (vget_inv h2).1
    exact ⟨zs, r, f, h3, by omega⟩
theorem rdn_size {l : List UInt8} : ∀ {k : Nat} {xs : List Nat} {q : Nat} {b : Bool}, rdn l k = .ok (xs, q, b) → (vputs xs).length ≤ q ∧ (b = true → (vputs xs).length < q)
  | 0, xs, q, b, h => by
    simp [rdn] at h
    obtain ⟨rfl, rfl, rfl⟩ := h
    simp [vputs]
  | k + 1, xs, q, b, h => by
    obtain ⟨ys, p, d, n, hk, hv, rfl, rfl⟩ := rdn_back h
    obtain ⟨h1, h2⟩ := rdn_size hk
    obtain ⟨g1, g2, g3, g4, g5⟩ := vget_inv hv
    have e : (vputs (ys ++ [n])).length = (vputs ys).length + (vput n).length := by rw [vputs_snoc]; simp
    refine ⟨by omega, fun hb => ?_⟩
    simp at hb
    rcases hb with hb | hb
    · have := h2 hb; omega
    · omega
/-- no list of another length -/
theorem rdn_other {s : ByteArray} {m c : Nat} {xs : List Nat} {b : Bool} (h : rdn s.data.toList m = .ok (xs, s.size, b)) (hne : m ≠ c) (ys : List Nat) : rdn s.data.toList c ≠ .ok (ys, s.size, false) := fun hy => by
  rcases Nat.lt_or_ge m c with h1 | h1
  · obtain ⟨d, rfl⟩ : ∃ d, c = m + d := ⟨c - m, by omega⟩
    obtain ⟨zs, p, e, h2, h3⟩ := rdn_prefix d hy
    rw [h] at h2
    simp at h2
    omega
  · obtain ⟨d, rfl⟩ : ∃ d, m = c + d := ⟨m - c, by omega⟩
    obtain ⟨zs, p, e, h2, h3⟩ := rdn_prefix d h
    rw [hy] at h2
    simp at h2
    omega
theorem rdn_dead {s : ByteArray} {m c q cc : Nat} {xs : List Nat} {b : Bool} (h : rdn s.data.toList m = .ok (xs, q, b)) (hq : q < s.size) (hv : vget s.data.toList (q : Int) = .error cc) (ys : List Nat) : rdn s.data.toList c ≠ .ok (ys, s.size, false) := fun hy => by
  rcases Nat.lt_or_ge m c with h1 | h1
  · obtain ⟨d, rfl⟩ : ∃ d, c = m + 1 + d := ⟨c - m - 1, by omega⟩
    have h2 := rdn_more (rdn_stop h hv) d
    rw [hy] at h2
    simp at h2
  · obtain ⟨d, rfl⟩ : ∃ d, m = c + d := ⟨m - c, by omega⟩
    obtain ⟨zs, p, e, h2, h3⟩ := rdn_prefix d h
    rw [hy] at h2
    simp at h2
    omega
theorem dec_last {l : List Nat} (h : ∀ n ∈ l, n < 18446744073709551616) {ls : List Nat} {la st : Nat} (hd : dec l = (ls, la, st)) (hl : 0 < l.length) : ls[l.length - 1]? = some la := by
  have hne : l ≠ [] := fun e => by rw [e] at hl; simp at hl
  have e := (List.dropLast_concat_getLast hne).symm
  have ok := dec_ok l.dropLast (fun n hn => h n (List.dropLast_subset _ hn))
  rw [e, dec_snoc] at hd
  unfold decT at hd
  split at hd
  · rename_i h0
    have h1 := ok.len
    rw [h0] at h1
    simp at h1
    simp at hd
    obtain ⟨rfl, rfl, _⟩ := hd
    have : l.length - 1 = 0 := by omega
    rw [this]; rfl
  · simp at hd
    obtain ⟨rfl, rfl, _⟩ := hd
    have h1 := ok.len
    rw [List.length_dropLast] at h1
    rw [List.getElem?_append_right (by omega), h1]
    simp
theorem dec_zero_step {l : List Nat} {ls : List Nat} {la st : Nat} (h : dec l = (ls, la, st)) (hl : l.length ≤ 1) : st = 0 := by
  rcases (by cases l with
    | nil => exact .inl rfl
    | cons a t => exact .inr (by cases t with
      | nil => exact ⟨a, rfl⟩
      | cons b u => simp at hl) : l = [] ∨ ∃ a, l = [a]) with rfl | ⟨a, rfl⟩
  · simp [dec] at h; exact h.2.2.symm
  · simp [dec, decT] at h; exact h.2.2.symm
theorem rzag_at (x : Nat) (z : Int) (w : World) (hn : x < 2^64) (hz : Hid (zag x = z)) :
    Calls Tryd.prog 31 #[.int .u64 x] w fun e w' => e = .returned (.int .i64 z) ∧ w = w' := by
  rw [← hz.out]; exact refzag_any x w (Lib.hid hn)
def RGPost (s : ByteArray) (c : Nat) (w : World) (e : Ending) (w' : World) : Prop :=
  Below w.heap.size w w' ∧ ((∃ xs, rdn s.data.toList c = .ok (xs, s.size, false) ∧ ∃ ao cap, e = .returned (.tuple #[.slice ao c cap, .bool true]) ∧ Nats .u64 w' ao (dec xs).1 ∧ (dec xs).1.length = c) ∨
    ((∀ xs, rdn s.data.toList c ≠ .ok (xs, s.size, false)) ∧ e = .returned (.tuple #[.slice none 0 0, .bool false])))
theorem rdput_len (ao : Option Addr) (cap : Nat) (l : List Nat) (n : Nat) (w : World) (hn : l.length = n) (hN : Nats .u64 w ao l) (hlt : Hid (∀ n ∈ l, n < 18446744073709551616)) (hl : n ≤ 20000) {S : ByteArray} (hS : Hid ((⟨(vputs (enc l).1).toArray⟩ : ByteArray) = S)) :
    Calls Tryd.prog 10 #[.slice ao n cap] w fun e w' => e = .returned (.tuple #[.string S, .int .i64 0]) ∧ Below w.heap.size w w' := by
  subst hn; exact rdput_any ao cap l w hN hlt hl hS
set_option maxRecDepth 1000000 in
set_option maxHeartbeats 8000000 in
theorem rdget_any (s : ByteArray) (c : Nat) (w : World) (hs : s.size ≤ 1000000) (hc : c ≤ 20000) :
    Calls Tryd.prog 14 #[.string s, .int .i64 c] w (RGPost s c w) := by
  go_enter Tryd.func14, Tryd.ntmps14
  go_wp2_with fail
  refine (rvs_any s w hs).mono ?_; rintro e w1 ⟨hb1, hpost⟩
  have HB1 := Lib.hid hb1
  clear hb1
  rcases hpost with ⟨v, b, vo, vcap, hrd, rfl, hvn⟩ | ⟨j, xs, q, b, cc, hrd, hq, hv, rfl⟩
  case inr =>
    have hc0 : ((cc : Int) != 0) = true := by have := vget_codes hv; simp; omega
    have HE : Hid (∀ ys, rdn s.data.toList c ≠ .ok (ys, s.size, false)) := Lib.hid (rdn_dead hrd hq hv)
    clear hrd hq hv
    go_wp2_with fail
    go_ret2
    exact ⟨HB1.out, .inr ⟨HE.out, rfl⟩⟩
  have hvl := (rdn_facts hrd).2.1
  have hvs := (rdn_facts hrd).2.2.1
  rw [show s.data.toList.length = s.size by simp] at hvs
  by_cases hne : v.length ≠ c
  · have HE : Hid (∀ ys, rdn s.data.toList c ≠ .ok (ys, s.size, false)) := Lib.hid (rdn_other hrd hne)
    have hc0 : ((v.length : Int) != (c : Int)) = true := by simp; omega
    clear hrd hvn hne
    go_wp2_with fail
    go_ret2
    exact ⟨HB1.out, .inr ⟨HE.out, rfl⟩⟩
  have hvc : v.length = c := by omega
  subst hvc
  have hvlt : ∀ n ∈ v, n < 18446744073709551616 := (rdn_facts hrd).2.2.2.1
  have HVL := Lib.hid hvlt
  have HRD := Lib.hid hrd
  have HVN := Lib.hid hvn
  clear hrd hvn hvlt hne
  go_wp2_with fail
  go_loopg [8, 9, 10] v.length (fun k vo' vst i wr => ∃ (j : Nat) (ls : List Nat) (la st : Nat), j + k = v.length ∧ i = .int .i64 j ∧ vst = .int .u64 st ∧ Hid (dec (v.take j) = (ls, la, st)) ∧ wr.ownsRow w1.heap.size 40 1 vo' j (nvals ls) ∧ Below w1.heap.size w1 wr)
  case atStart => exact ⟨0, [], 0, 0, by omega, rfl, rfl, Lib.hid rfl, World.ownsRow_nil _ _ _ _, Below.refl _ _⟩
  case round =>
    obtain ⟨j, ls, la, st, hj, rfl, rfl, HD, hown, hb1r⟩ := hrel
    have HBV := Lib.hid hb1r
    have hbs : w1.heap.size ≤ wr.heap.size := hb1r.size
    have hvt : ∀ n ∈ v.take j, n < 18446744073709551616 := fun n hn => HVL.out n (List.mem_of_mem_take hn)
    have ok := dec_ok (v.take j) hvt
    have hz0 : j ≤ 1 → st = 0 := fun h => dec_zero_step HD.out (by rw [List.length_take]; omega)
    have hlast : 0 < j → j ≤ v.length → ls[j - 1]? = some la := fun h h' => by
      have := dec_last hvt HD.out (by rw [List.length_take]; omega)
      rw [List.length_take, Nat.min_eq_left h'] at this
      exact this
    rw [HD.out] at ok
    have hla : la < 18446744073709551616 := ok.last
    have hst : st < 18446744073709551616 := ok.step
    have hll : ls.length = (v.take j).length := ok.len
    clear hb1r ok hvt
    by_cases hlt : j < v.length
    · obtain ⟨bb, off, n, HN, rfl, hbl, hcell⟩ := (HVN.out.below HBV.out).at hlt
      have hn : n < 18446744073709551616 := by rw [HN.out]; exact HVL.out _ (List.getElem_mem _)
      have HE := Lib.hid (show dec (v.take (j + 1)) = decT (ls, la, st) n by rw [List.take_succ_eq_append_getElem hlt, dec_snoc, HD.out, HN.out])
      have hlj : ls.length = j := by rw [hll, List.length_take]; omega
      have hi1 : (j : Int) < (v.length : Int) := by omega
      have hi0 : (0 : Int) ≤ (j : Int) := by omega
      have HJ := Lib.hid hj
      clear hj hll
      by_cases hz : j = 0
      · subst hz
        have hls : ls = [] := List.length_eq_zero_iff.1 hlj
        have HX : Hid (dec (v.take 1) = ([n], n, st)) := Lib.hid (by rw [HE.out, hls]; rfl)
        subst hls
        rw [Nat.add_zero] at hcell
        clear hz0 hlast
        go_wp2_with (at_builtin; refine wpList_app1 (c := 1) rfl _ _ 22 rfl Tryd.elU64d (by decide) hown rfl (by show Value.slice (some ⟨wr.heap.size, 0, none⟩) 1 1 = _; simp) rfl (by simp [Value.oneCell']) (by unfold maxLen; omega) (by omega) hbs ?_; intro v' w2 hown' hgrow)
        have HBV2 : Hid (Below w1.heap.size w1 w2) := Lib.hid (HBV.out.grown hgrow hbs (fun k hk => (hown.lt _ hk).1))
        have hj := HJ.out
        go_roundg (gk - 1)
        case measure => omega
        case rel => exact ⟨1, [n], n, st, by omega, by simp, rfl, HX, hown', HBV2.out⟩
      · have hls : ls ≠ [] := fun h => hz (by rw [← hlj, h]; rfl)
        have ez : ((j : Int) == 0) = false := by simp; omega
        obtain ⟨z, hzg⟩ : ∃ z, zag n = z := ⟨_, rfl⟩
        obtain ⟨d, hd⟩ : ∃ d, zagN n = d := ⟨_, rfl⟩
        obtain ⟨st2, hst2⟩ : ∃ x, add64 st d = x := ⟨_, rfl⟩
        obtain ⟨la2, hla2⟩ : ∃ x, add64 la st2 = x := ⟨_, rfl⟩
        have hdl : d < 18446744073709551616 := by rw [← hd]; exact zagN_lt n
        have e1 : IntKind.u64.wrap z = (d : Int) := by rw [← hzg, ← hd]; exact wrap_uns n
        have e2 : IntKind.u64.wrap ((st : Int) + (d : Int)) = (st2 : Int) := by rw [← hst2]; exact wrap_add st d
        have e3 : IntKind.u64.wrap ((la : Int) + (st2 : Int)) = (la2 : Int) := by rw [← hla2]; exact wrap_add la st2
        have HX : Hid (dec (v.take (j + 1)) = (ls ++ [la2], la2, st2)) := Lib.hid (by
          rw [HE.out]
          unfold decT
          rw [if_neg hls]
          simp only [hd, hst2, hla2])
        have HZ := Lib.hid hzg
        have hst2l : st2 < 18446744073709551616 := by rw [← hst2]; exact add64_lt _ _
        have hla2l : la2 < 18446744073709551616 := by rw [← hla2]; exact add64_lt _ _
        have hs0 : st = 0 → st2 = d := fun h => by subst h; rw [← hst2]; unfold add64; omega
        obtain ⟨g, gcap, rfl, hg1, hg2, _⟩ := own_some hown (show 0 < j by omega)
        have hce0 : wr.cell? ⟨g, j - 1, none⟩ = some (.int .u64 (la : Int)) := by
          rw [hown.cellAt (j - 1) (by omega)]
          unfold nvals
          rw [List.getElem?_map, hlast (by omega) (by omega)]
          rfl
        clear hlast hd hst2 hla2 hzg
        by_cases ho : j = 1
        · have hs2 := hs0 (hz0 (by omega))
          subst hs2
          have eo : ((j : Int) == 1) = true := by simp; omega
          subst ho
          simp only [Nat.sub_self] at hce0
          clear hz0 hz hs0 e2
          go_wp2_with fail
          refine (rzag_at n z _ hn HZ).mono ?_; rintro e w' ⟨rfl, rfl⟩
          go_wp2_with (at_builtin; refine wpList_app1 (c := 1) (cs := [.int .u64 (la2 : Int)]) rfl _ _ 22 rfl Tryd.elU64d (by decide) hown rfl (by show Value.slice (some ⟨wr.heap.size, 0, none⟩) 1 1 = _; simp) rfl (by simp [Value.oneCell']) (by unfold maxLen; omega) (by omega) hbs ?_; intro v' w2 hown' hgrow)
          have HBV2 : Hid (Below w1.heap.size w1 w2) := Lib.hid (HBV.out.grown hgrow hbs (fun k hk => (hown.lt _ hk).1))
          have HO2 : Hid (w2.ownsRow w1.heap.size 40 1 v' (1 + 1) (nvals (ls ++ [la2]))) := Lib.hid (by simpa [nvals] using hown')
          have hj := HJ.out
          go_roundg (gk - 1)
          case measure => omega
          case rel => exact ⟨1 + 1, ls ++ [la2], la2, st2, by omega, by simp, rfl, HX, HO2.out, HBV2.out⟩
        · have eo : ((j : Int) == 1) = false := by simp; omega
          obtain ⟨jj, hjj⟩ : ∃ jj, j - 1 = jj := ⟨_, rfl⟩
          have hji : (j : Int) - 1 = (jj : Int) := by omega
          have hjl : (jj : Int) < (j : Int) := by omega
          rw [hjj] at hce0
          clear hz0 hz hs0 ho
          go_wp2_with fail
          refine (rzag_at n z _ hn HZ).mono ?_; rintro e w' ⟨rfl, rfl⟩
          go_wp2_with (at_builtin; refine wpList_app1 (c := 1) (cs := [.int .u64 (la2 : Int)]) rfl _ _ 22 rfl Tryd.elU64d (by decide) hown rfl (by show Value.slice (some ⟨wr.heap.size, 0, none⟩) 1 1 = _; simp) rfl (by simp [Value.oneCell']) (by unfold maxLen; omega) (by omega) hbs ?_; intro v' w2 hown' hgrow)
          have HBV2 : Hid (Below w1.heap.size w1 w2) := Lib.hid (HBV.out.grown hgrow hbs (fun k hk => (hown.lt _ hk).1))
          have HO2 : Hid (w2.ownsRow w1.heap.size 40 1 v' (j + 1) (nvals (ls ++ [la2]))) := Lib.hid (by simpa [nvals] using hown')
          have hj := HJ.out
          go_roundg (gk - 1)
          case measure => omega
          case rel => exact ⟨j + 1, ls ++ [la2], la2, st2, by omega, by simp, rfl, HX, HO2.out, HBV2.out⟩
    · obtain rfl : j = v.length := by omega
      have HD2 : Hid (dec v = (ls, la, st)) := Lib.hid (by rw [← HD.out, List.take_length])
      have hlv : ls.length = v.length := by rw [hll, List.take_length]
      have hok := dec_ok v HVL.out
      rw [HD2.out] at hok
      have HLT : Hid (∀ n ∈ ls, n < 18446744073709551616) := Lib.hid hok.all
      have HEN : Hid ((enc ls).1 = v) := Lib.hid (by
        have := enc_dec v HVL.out
        rw [HD2.out] at this
        simp only at this
        rw [this])
      obtain ⟨ao, cap, rfl⟩ := own_slice hown
      have HNO : Hid (Nats .u64 wr ao ls) := Lib.hid (by
        have h2 : wr.ownsRow w1.heap.size 40 1 (.slice ao ls.length cap) ls.length (nvals ls) := by rw [hlv]; exact hown
        exact nats_of_own h2)
      have hsz := rdn_size HRD.out
      have HB := Lib.hid (dstep HB1.out HBV.out)
      clear hown hok hlast hz0 hj hll
      cases b with
      | false =>
        have HS : Hid ((⟨(vputs (enc ls).1).toArray⟩ : ByteArray) = s) := Lib.hid (by
          have h5 := (rdn_facts HRD.out).2.2.2.2 rfl
          rw [HEN.out, ← h5, List.take_of_length_le (by simp)])
        clear hsz
        go_wp2_with fail
        refine (rdput_len ao cap ls _ _ hlv HNO.out HLT hc HS).mono ?_; rintro e w3 ⟨rfl, hb3⟩
        have HB3 := Lib.hid (dstep HB.out hb3)
        have HN3 := Lib.hid (HNO.out.below hb3)
        clear hb3
        go_wp2_with fail
        go_ret2
        exact ⟨HB3.out, .inl ⟨v, HRD.out, ao, cap, rfl, by rw [HD2.out]; exact HN3.out, by rw [HD2.out]; exact hlv⟩⟩
      | true =>
        obtain ⟨T, hT⟩ : ∃ T, (⟨(vputs (enc ls).1).toArray⟩ : ByteArray) = T := ⟨_, rfl⟩
        have hne : ¬ T = s := fun h => by
          have h1 := hsz.2 rfl
          have h2 : T.size = (vputs v).length := by rw [← hT, HEN.out]; exact ba_size _
          rw [h] at h2
          omega
        have hnb : (T.toList == s.toList) = false := by
          rw [beq_eq_false_iff_ne, ByteArray.toList_eq, ByteArray.toList_eq]
          intro h
          exact hne (ByteArray.ext (Array.ext' h))
        have HT := Lib.hid hT
        have HE : Hid (∀ ys, rdn s.data.toList v.length ≠ .ok (ys, s.size, false)) := Lib.hid fun ys hy => by
          rw [HRD.out] at hy
          simp at hy
        clear hsz hT hne
        go_wp2_with fail
        refine (rdput_len ao cap ls _ _ hlv HNO.out HLT hc HT).mono ?_; rintro e w3 ⟨rfl, hb3⟩
        have HB3 := Lib.hid (dstep HB.out hb3)
        clear hb3
        go_wp2_with fail
        go_ret2
        exact ⟨HB3.out, .inr ⟨HE.out, rfl⟩⟩
theorem rdget_range (s : ByteArray) (c : Int) (w : World) (hc : c < 0 ∨ 20000 < c) :
    Calls Tryd.prog 14 #[.string s, .int .i64 c] w fun e w' => e = .returned (.tuple #[.slice none 0 0, .bool false]) ∧ w = w' := by
  rcases (by omega : c < 0 ∨ (¬ c < 0 ∧ 20000 < c)) with h | ⟨h, h2⟩
  · go_enter Tryd.func14, Tryd.ntmps14
    go_wp2_with fail
    go_ret2
    exact ⟨rfl, rfl⟩
  · go_enter Tryd.func14, Tryd.ntmps14
    go_wp2_with fail
    go_ret2
    exact ⟨rfl, rfl⟩
theorem dgrange (s : ByteArray) (c : Int) (w : World) (hc : c < 0 ∨ 20000 < c) :
    Calls Tryd.prog 13 #[.string s, .int .i64 c] w fun e w' => e = .returned (.tuple #[.slice none 0 0, .iface 73 (.pointer (some ⟨w.heap.size, 0, none⟩))]) ∧ w' = w.alloc (.cells #[.int .i64 0, .iface 29 (.int .i64 9)] 75) := by
  rcases (by omega : c < 0 ∨ (¬ c < 0 ∧ 20000 < c)) with h | ⟨h, h2⟩
  · go_enter Tryd.func13, Tryd.ntmps13
    go_wp2_with fail
    refine (at_any _ _ _ _).mono ?_; rintro e w' ⟨rfl, rfl⟩
    go_wp2_with fail
    go_ret2
    exact ⟨rfl, rfl⟩
  · go_enter Tryd.func13, Tryd.ntmps13
    go_wp2_with fail
    refine (at_any _ _ _ _).mono ?_; rintro e w' ⟨rfl, rfl⟩
    go_wp2_with fail
    go_ret2
    exact ⟨rfl, rfl⟩
theorem nums_none (w : World) : Calls Tryd.prog 12 #[.slice none 0 0, .slice none 0 0] w fun e w' => e = .returned (.bool true) ∧ Below w.heap.size w w' :=
  nums_same none none 0 0 [] w (fun h => absurd rfl h) (fun h => absurd rfl h) (by simp)
theorem rdget_ok (s : ByteArray) (c : Nat) (w : World) (hs : s.size ≤ 1000000) (hc : c ≤ 20000) {xs ls : List Nat} (hr : Hid (rdn s.data.toList c = .ok (xs, s.size, false))) (hl : Hid ((dec xs).1 = ls)) :
    Calls Tryd.prog 14 #[.string s, .int .i64 c] w fun e w' => Below w.heap.size w w' ∧ ∃ ao cap, e = .returned (.tuple #[.slice ao c cap, .bool true]) ∧ Nats .u64 w' ao ls ∧ ls.length = c :=
  (rdget_any s c w hs hc).mono fun e w' ⟨hb, h⟩ => by
    refine ⟨hb, ?_⟩
    rcases h with ⟨ys, hy, ao, cap, he, h3, h4⟩ | ⟨hn, _⟩
    · rw [hr.out] at hy
      simp at hy
      subst hy
      rw [hl.out] at h3 h4
      exact ⟨ao, cap, he, h3, h4⟩
    · exact absurd hr.out (hn xs)
theorem rdget_no (s : ByteArray) (c : Nat) (w : World) (hs : s.size ≤ 1000000) (hc : c ≤ 20000) (hr : Hid (∀ xs, rdn s.data.toList c ≠ .ok (xs, s.size, false))) :
    Calls Tryd.prog 14 #[.string s, .int .i64 c] w fun e w' => Below w.heap.size w w' ∧ e = .returned (.tuple #[.slice none 0 0, .bool false]) :=
  (rdget_any s c w hs hc).mono fun e w' ⟨hb, h⟩ => by
    refine ⟨hb, ?_⟩
    rcases h with ⟨ys, hy, _⟩ | ⟨_, h2⟩
    · exact absurd hy (hr.out ys)
    · exact h2
set_option maxRecDepth 1000000 in
set_option maxHeartbeats 4000000 in
theorem gets_long (s : ByteArray) (c : Int) (w : World) (hs : 4000 < s.size) (hm : s.size ≤ 9223372036854775807) :
    Calls Tryd.prog 4 #[.string s, .int .i64 c] w fun e w' => e = .returned (.bool true) ∧ Below w.heap.size w w' := by
  go_enter Tryd.func4, Tryd.ntmps4
  go_wp2_with fail
  refine (first20 w).mono ?_; rintro e w1 ⟨rfl, hb1⟩
  have HB1 := Lib.hid hb1
  clear hb1
  go_wp2_with fail
  refine (first20 w1).mono ?_; rintro e w2 ⟨rfl, hb2⟩
  have HB2 := Lib.hid (dstep HB1.out hb2)
  clear hb2
  go_wp2_with fail
  go_ret
  exact ⟨rfl, HB2.out⟩
set_option maxRecDepth 1000000 in
set_option maxHeartbeats 4000000 in
theorem gets_range (s : ByteArray) (c : Int) (w : World) (hs : s.size ≤ 4000) (hg : Hid (Glob w)) (hc : Hid (c < 0 ∨ 20000 < c)) (hx : (decide (c ≥ 0) = false) ∨ (decide (c ≥ 0) = true ∧ decide (c ≤ 20000) = false)) :
    Calls Tryd.prog 4 #[.string s, .int .i64 c] w fun e w' => e = .returned (.bool true) ∧ Below w.heap.size w w' := by
  rcases hx with hx | ⟨hx, hx2⟩ <;>
  · go_enter Tryd.func4, Tryd.ntmps4
    go_wp2_with fail
    refine (first20 w).mono ?_; rintro e w1 ⟨rfl, hb1⟩
    have HB1 := Lib.hid (dstep hb1 (below_new0 w1 (.cells #[.int .i64 0, .iface 29 (.int .i64 9)] 75)))
    have HC1 := Lib.hid (codeIs_alloc w1 0 9)
    clear hb1
    go_wp2_with fail
    refine (dgrange s c _ hc.out).mono ?_; rintro e w' ⟨rfl, rfl⟩
    go_wp2_with fail
    refine (rdget_range s c _ hc.out).mono ?_; rintro e w' ⟨rfl, rfl⟩
    go_wp2_with fail
    refine (first20 _).mono ?_; rintro e w2 ⟨rfl, hb2⟩
    have HB2 := Lib.hid (dstep HB1.out hb2)
    have HC2 := Lib.hid (HC1.out.below hb2)
    clear hb2
    go_wp2_with fail
    refine (nums_none _).mono ?_; rintro e w3 ⟨rfl, hb3⟩
    have HB3 := Lib.hid (dstep HB2.out hb3)
    have HC3 := Lib.hid (HC2.out.below hb3)
    clear hb3
    go_wp2_with fail
    refine (codeIs_any _ 9 _ HC3.out (hg.out.below HB3.out)).mono ?_; rintro e w4 ⟨rfl, hb4⟩
    have HB4 := Lib.hid (dstep HB3.out hb4)
    clear hb4
    go_wp2_with fail
    go_ret
    exact ⟨rfl, HB4.out⟩
set_option maxRecDepth 1000000 in
set_option maxHeartbeats 4000000 in
theorem gets_no (s : ByteArray) (c : Nat) (w : World) (hs : s.size ≤ 4000) (hc : c ≤ 20000) (hr : Hid (∀ xs, rdn s.data.toList c ≠ .ok (xs, s.size, false))) :
    Calls Tryd.prog 4 #[.string s, .int .i64 c] w fun e w' => e = .returned (.bool true) ∧ Below w.heap.size w w' := by
  go_enter Tryd.func4, Tryd.ntmps4
  go_wp2_with fail
  refine (first20 w).mono ?_; rintro e w1 ⟨rfl, hb1⟩
  have HB1 := Lib.hid hb1
  clear hb1
  go_wp2_with fail
  refine (dget_no s c _ (by omega) hc hr).mono ?_; rintro e w2 ⟨hb2, x, rfl⟩
  have HB2 := Lib.hid (dstep HB1.out hb2)
  clear hb2
  go_wp2_with fail
  refine (rdget_no s c _ (by omega) hc hr).mono ?_; rintro e w3 ⟨hb3, rfl⟩
  have HB3 := Lib.hid (dstep HB2.out hb3)
  clear hb3
  go_wp2_with fail
  refine (first20 _).mono ?_; rintro e w4 ⟨rfl, hb4⟩
  have HB4 := Lib.hid (dstep HB3.out hb4)
  clear hb4
  go_wp2_with fail
  refine (nums_none _).mono ?_; rintro e w5 ⟨rfl, hb5⟩
  have HB5 := Lib.hid (dstep HB4.out hb5)
  clear hb5
  go_wp2_with fail
  go_ret
  exact ⟨rfl, HB5.out⟩
set_option maxRecDepth 1000000 in
set_option maxHeartbeats 4000000 in
theorem gets_ok (s : ByteArray) (c : Nat) (w : World) (hs : s.size ≤ 4000) (hc : c ≤ 20000) {xs ls : List Nat} (hr : Hid (rdn s.data.toList c = .ok (xs, s.size, false))) (hl : Hid ((dec xs).1 = ls)) :
    Calls Tryd.prog 4 #[.string s, .int .i64 c] w fun e w' => e = .returned (.bool true) ∧ Below w.heap.size w w' := by
  go_enter Tryd.func4, Tryd.ntmps4
  go_wp2_with fail
  refine (first20 w).mono ?_; rintro e w1 ⟨rfl, hb1⟩
  have HB1 := Lib.hid hb1
  clear hb1
  go_wp2_with fail
  refine (dget_ok s c _ (by omega) hc hr hl).mono ?_; rintro e w2 ⟨hb2, ao, cap, rfl, h1, h2, h3, h4⟩
  have HB2 := Lib.hid (dstep HB1.out hb2)
  have HN2 := Lib.hid h3
  have HLn := Lib.hid h4
  clear hb2 h1 h2 h3 h4
  go_wp2_with fail
  refine (rdget_ok s c _ (by omega) hc hr hl).mono ?_; rintro e w3 ⟨hb3, bo, bcap, rfl, h3, h4⟩
  have HB3 := Lib.hid (dstep HB2.out hb3)
  have HN3 := Lib.hid (HN2.out.below hb3)
  have HM3 := Lib.hid h3
  clear hb3 h3 h4
  go_wp2_with fail
  refine (first20 _).mono ?_; rintro e w4 ⟨rfl, hb4⟩
  have HB4 := Lib.hid (dstep HB3.out hb4)
  have HN4 := Lib.hid (HN3.out.below hb4)
  have HM4 := Lib.hid (HM3.out.below hb4)
  clear hb4
  go_wp2_with fail
  refine (nums_len _ _ _ _ ls c _ HLn.out HN4.out HM4.out (by omega)).mono ?_; rintro e w5 ⟨rfl, hb5⟩
  have HB5 := Lib.hid (dstep HB4.out hb5)
  clear hb5
  go_wp2_with fail
  go_ret
  exact ⟨rfl, HB5.out⟩
theorem gets_walk20 (s : ByteArray) (c : Int) (w : World) (hm : s.size ≤ 9223372036854775807) (hg : Glob w) :
    Calls Tryd.prog 4 #[.string s, .int .i64 c] w fun e w' => e = .returned (.bool true) ∧ Below w.heap.size w w' := by
  by_cases h1 : 4000 < s.size
  · exact gets_long s c w h1 hm
  by_cases h2 : c < 0 ∨ 20000 < c
  · refine gets_range s c w (by omega) (Lib.hid hg) (Lib.hid h2) ?_
    by_cases h3 : c ≥ 0
    · exact .inr ⟨decide_eq_true h3, decide_eq_false (by omega)⟩
    · exact .inl (decide_eq_false h3)
  obtain ⟨n, rfl⟩ := Int.eq_ofNat_of_zero_le (show 0 ≤ c by omega)
  by_cases h3 : ∃ xs, rdn s.data.toList n = .ok (xs, s.size, false)
  · obtain ⟨xs, hx⟩ := h3
    exact gets_ok s n w (by omega) (by omega) (Lib.hid hx) (Lib.hid rfl)
  · exact gets_no s n w (by omega) (by omega) (Lib.hid fun xs hx => h3 ⟨xs, hx⟩)
end Go.Proofs.YtkpljnfakidjeaaDoor
