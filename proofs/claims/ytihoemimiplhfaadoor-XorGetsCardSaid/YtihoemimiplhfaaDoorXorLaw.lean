/-
  hyglaw21: what the examples fix; texts that are no columns.
-/
import Derived.Test.YtihoemimiplhfaaDoorXorGet
import Derived.Test.YtihoemimiplhfaaDoorNumsSame
namespace Go.Proofs.YtihoemimiplhfaaDoor
open Go.RowKit

theorem catN_xenc_take (l : List Nat) (h : ∀ n ∈ l, n < 18446744073709551616) : ∀ j, j ≤ l.length → catN (xenc (l.take j)) ≤ 77 * j
  | 0, _ => by simp [xenc, xencR, catN]
  | j + 1, hj => by
    rw [xenc_take (by omega), catN_append]
    have h1 := catN_xenc_take l h j (by omega)
    have h2 := catN_xpart (l.take j) l[j] (fun m hm => h m (List.mem_of_mem_take hm)) (h _ (List.getElem_mem _))
    omega
theorem catN_xenc_le (l : List Nat) (h : ∀ n ∈ l, n < 18446744073709551616) : catN (xenc l) ≤ 77 * l.length := by
  have := catN_xenc_take l h l.length (Nat.le_refl _)
  rw [List.take_length] at this
  exact this
theorem good_ofX (l : List Nat) (h : ∀ n ∈ l, n < 18446744073709551616) : GoodX ⟨(xbytes l).toArray⟩ l.length l := ⟨rfl, by simp, h⟩
theorem good_bits {s : ByteArray} {c : Nat} {l : List Nat} (hg : GoodX s c l) : s.size = (catN (xenc l) + 7) / 8 := by
  have hl : s.size = (xbytes l).length := by rw [← hg.2.1]; simp
  rw [hl, xbytes_length]
theorem xor_cancel {a b c : Nat} (h : a ^^^ c = b ^^^ c) : a = b := by
  have := congrArg (· ^^^ c) h
  simp only [Nat.xor_assoc, Nat.xor_self, Nat.xor_zero] at this
  exact this
/-- one text, or one that goes on: the numbers are the same as far as both go -/
theorem good_run {s s' : ByteArray} {c c' : Nat} {l l' : List Nat} (hg : GoodX s c l) (hg' : GoodX s' c' l') (h64 : 64 ≤ 8 * s.size → getB s'.data.toList 0 64 = getB s.data.toList 0 64) (hx : ∀ q r, xnx s q = some r → xnx s' q = some r) : ∀ j, j ≤ l.length → j ≤ l'.length → l.take j = l'.take j
  | 0, _, _ => rfl
  | j + 1, h1, h2 => by
    have ih := good_run hg hg' h64 hx j (by omega) (by omega)
    have hl : j < l.length := by omega
    have hl' : j < l'.length := by omega
    rw [List.take_succ_eq_append_getElem hl, List.take_succ_eq_append_getElem hl', ih]
    congr 2
    rcases Nat.eq_zero_or_pos j with rfl | hj
    · obtain ⟨b, hb⟩ := xenc_split hl
      obtain ⟨b', hb'⟩ := xenc_split hl'
      have hp : xpart (l.take 0) l[0] = [(l[0], 64)] := rfl
      have hp' : xpart (l'.take 0) l'[0] = [(l'[0], 64)] := rfl
      rw [hp] at hb
      rw [hp'] at hb'
      have m1 := good_mid hg (by rw [hb]; rfl)
      have m2 := good_mid hg' (by rw [hb']; rfl)
      have e0 : catN (xenc (l.take 0)) = 0 := rfl
      have e0' : catN (xenc (l'.take 0)) = 0 := rfl
      rw [e0] at m1
      rw [e0'] at m2
      rw [← m1.1, ← m2.1, h64 (by omega)]
    · have x1 := hx _ _ (xnx_good hg hj hl)
      rw [ih, xnx_good hg' hj hl'] at x1
      simp only [Option.some.injEq, Prod.mk.injEq] at x1
      exact (xor_cancel x1.1).symm
theorem good_oneX {s : ByteArray} {c : Nat} {a b : List Nat} (ha : GoodX s c a) (hb : GoodX s c b) : a = b := by
  have := good_run ha hb (fun _ => rfl) (fun _ _ h => h) c (by rw [ha.1]; exact Nat.le_refl _) (by rw [hb.1]; exact Nat.le_refl _)
  rw [List.take_of_length_le (by rw [ha.1]; exact Nat.le_refl _), List.take_of_length_le (by rw [hb.1]; exact Nat.le_refl _)] at this
  exact this
theorem getB_more (L : List UInt8) (x : UInt8) (i k : Nat) (h : i + k ≤ 8 * L.length) : getB (L ++ [x]) i k = getB L i k := by
  unfold getB
  rw [beVal_snoc, List.length_append, List.length_singleton, show 8 * (L.length + 1) - i - k = 8 + (8 * L.length - i - k) by omega, Nat.pow_add, ← Nat.div_div_eq_div_mul]
  have hx := x.toNat_lt
  rw [show (beVal L * 256 + x.toNat) / 2 ^ 8 = beVal L by omega]
theorem xnx_more {s s' : ByteArray} {x : UInt8} (hs : s'.data.toList = s.data.toList ++ [x]) (q : Nat) (r : Nat × Nat × Bool) (h : xnx s q = some r) : xnx s' q = some r := by
  have hl : s.data.toList.length = s.size := by simp
  have hz : s'.size = s.size + 1 := by
    have := congrArg List.length hs
    simp at this
    exact this
  have hm : ∀ i k, i + k ≤ 8 * s.size → getB s'.data.toList i k = getB s.data.toList i k := fun i k hik => by rw [hs]; exact getB_more _ _ _ _ (by omega)
  unfold xnx at h ⊢
  split at h
  · simp at h
  rename_i c1
  rw [if_neg (by omega), hm q 1 (by omega)]
  split at h
  · rename_i c2
    rw [if_pos c2]; exact h
  rename_i c2
  rw [if_neg c2]
  split at h
  · simp at h
  rename_i c3
  rw [if_neg (by omega), hm (q + 1) 12 (by omega)]
  split at h
  · simp at h
  rename_i c4
  rw [if_neg (by omega), hm (q + 13) _ (by omega)]
  exact h
theorem no_more {s s' : ByteArray} {x : UInt8} {c : Nat} {l l' : List Nat} (hs : s'.data.toList = s.data.toList ++ [x]) (hg : GoodX s c l) (hg' : GoodX s' c l') : False := by
  have := good_run hg hg' (fun h => by rw [hs]; exact getB_more _ _ _ _ (by simp; omega)) (fun q r h => xnx_more hs q r h) c (by rw [hg.1]; exact Nat.le_refl _) (by rw [hg'.1]; exact Nat.le_refl _)
  rw [List.take_of_length_le (by rw [hg.1]; exact Nat.le_refl _), List.take_of_length_le (by rw [hg'.1]; exact Nat.le_refl _)] at this
  have h1 := hg.2.1
  have h2 := hg'.2.1
  rw [← this, ← h1, hs] at h2
  have := congrArg List.length h2
  simp at this
theorem xenc_bits {l : List Nat} : ∀ (d j : Nat), 0 < j → j + d ≤ l.length → catN (xenc (l.take j)) + d ≤ catN (xenc (l.take (j + d)))
  | 0, j, _, _ => Nat.le_refl _
  | d + 1, j, h0, h => by
    have ih := xenc_bits (l := l) d j h0 (by omega)
    rw [show j + (d + 1) = j + d + 1 by omega, xenc_take (by omega : j + d < l.length), catN_append]
    have : 1 ≤ catN (xpart (l.take (j + d)) l[j + d]) := by
      unfold xpart
      split
      · simp [catN]
      · unfold xch
        split <;> simp [catN]
        omega
    omega
theorem no_longer {s : ByteArray} {c : Nat} {l l' : List Nat} (hg : GoodX s c l) (hg' : GoodX s (c + 8) l') : False := by
  have h1 := good_bits hg
  have h2 := good_bits hg'
  have hl := hg.1
  have hl' := hg'.1
  rcases Nat.eq_zero_or_pos c with rfl | hc
  · have e : l = [] := List.length_eq_zero_iff.1 hl
    subst e
    have h3 := xenc_bits (l := l') 7 1 (by omega) (by omega)
    have h4 := catN_take_mono l' (1 + 7)
    have e0 : catN (xenc []) = 0 := rfl
    rw [e0] at h1
    omega
  · have hr := good_run hg hg' (fun _ => rfl) (fun _ _ h => h) c (by omega) (by omega)
    rw [List.take_of_length_le (by omega)] at hr
    have h3 := xenc_bits (l := l') 8 c hc (by omega)
    rw [← hr, List.take_of_length_le (by omega : l'.length ≤ c + 8)] at h3
    omega
theorem xget_ok (s : ByteArray) (c : Nat) (w : World) (hs : s.size ≤ 1000000000) (hc : c ≤ 20000) {ls : List Nat} (hr : Hid (GoodX s c ls)) :
    Calls Tryd.prog 14 #[.string s, .int .i64 c] w fun e w' => Below w.heap.size w w' ∧ ∃ ao cap, e = .returned (.tuple #[.slice ao c cap, .nilIface]) ∧ Nats .u64 w' ao ls ∧ ls.length = c :=
  (xget_any s c w hs hc).mono fun e w' ⟨hb, h⟩ => by
    refine ⟨hb, ?_⟩
    rcases h with ⟨ys, hy, ao, cap, he, h3⟩ | ⟨hn, _⟩
    · have := good_oneX hr.out hy
      subst this
      exact ⟨ao, cap, he, h3, hy.1⟩
    · exact absurd hr.out (hn ls)
theorem xget_no (s : ByteArray) (c : Nat) (w : World) (hs : s.size ≤ 1000000000) (hc : c ≤ 20000) (hr : Hid (∀ ls, ¬ GoodX s c ls)) :
    Calls Tryd.prog 14 #[.string s, .int .i64 c] w fun e w' => Below w.heap.size w w' ∧ ∃ x, e = .returned (.tuple #[.slice none 0 0, .iface 103 x]) :=
  (xget_any s c w hs hc).mono fun e w' ⟨hb, h⟩ => by
    refine ⟨hb, ?_⟩
    rcases h with ⟨ys, hy, _⟩ | ⟨_, h2⟩
    · exact absurd hy (hr.out ys)
    · exact h2
theorem xput_str (ao : Option Addr) (cap : Nat) (l : List Nat) (n : Nat) (s : ByteArray) (w : World) (hn : l.length = n) (hN : Nats .u64 w ao l) (hg : Hid (GoodX s n l)) (hl : n ≤ 20000) (hb : Hid (catN (xenc l) ≤ 900000)) :
    Calls Tryd.prog 10 #[.slice ao n cap] w fun e w' => e = .returned (.tuple #[.string s, .nilIface]) ∧ Below w.heap.size w w' := by
  subst hn
  exact xput_any ao cap l w hN (Lib.hid hg.out.2.2) hl hb (Lib.hid (ByteArray.ext (Array.ext' (by simp [hg.out.2.1]))))
theorem xget_range (s : ByteArray) (c : Int) (w : World) (hc : c < 0 ∨ 20000 < c) :
    Calls Tryd.prog 14 #[.string s, .int .i64 c] w fun e w' => e = .returned (.tuple #[.slice none 0 0, .iface 103 (.pointer (some ⟨w.heap.size, 0, none⟩))]) ∧ w' = w.alloc (.cells #[.int .i64 0, .iface 29 (.int .i64 9)] 105) := by
  rcases (by omega : c < 0 ∨ (¬ c < 0 ∧ 20000 < c)) with h | ⟨h, h2⟩
  · go_enter Tryd.func14, Tryd.ntmps14
    go_wp2_with fail
    refine (at_any _ _ _ _).mono ?_; rintro e w' ⟨rfl, rfl⟩
    go_wp2_with fail
    go_ret2
    exact ⟨rfl, rfl⟩
  · go_enter Tryd.func14, Tryd.ntmps14
    go_wp2_with fail
    refine (at_any _ _ _ _).mono ?_; rintro e w' ⟨rfl, rfl⟩
    go_wp2_with fail
    go_ret2
    exact ⟨rfl, rfl⟩
theorem nats_two (w : World) (a b : Nat) : Nats .u64 (w.alloc (.cells #[.int .u64 (a : Int), .int .u64 (b : Int)] 40)) (some ⟨w.heap.size, 0, none⟩) [a, b] := fun _ => by
  refine ⟨w.heap.size, 0, rfl, by simp, fun j hj => ?_⟩
  rw [Nat.zero_add, World.cell?_alloc_at _ _ _ _ rfl]
  rcases (by simp at hj; omega : j = 0 ∨ j = 1) with rfl | rfl <;> rfl
theorem dstep {a b c : World} (h1 : Below a.heap.size a b) (h2 : Below b.heap.size b c) : Below a.heap.size a c := h1.trans (h2.mono h1.size)
set_option maxRecDepth 1000000 in
set_option maxHeartbeats 4000000 in
theorem first21 (w : World) : Calls Tryd.prog 8 #[] w fun e w' => e = .returned (.bool true) ∧ Below w.heap.size w w' := by
  have HR : Hid (GoodX ⟨#[0, 0, 0, 0, 0, 0, 0, 5, 0]⟩ 2 [5, 5]) := Lib.hid ⟨rfl, by decide +kernel, by decide⟩
  have HC : Hid (catN (xenc [5, 5]) ≤ 900000) := Lib.hid (by decide +kernel)
  go_enter Tryd.func8, Tryd.ntmps8
  go_wp2_with fail
  refine (xput_str (some ⟨w.heap.size, 0, none⟩) 2 [5, 5] 2 ⟨#[0, 0, 0, 0, 0, 0, 0, 5, 0]⟩ _ rfl (nats_two w 5 5) HR (by decide) HC).mono ?_; rintro e w1 ⟨rfl, hb1⟩
  have HB1 := Lib.hid (dstep (below_new0 w _) hb1)
  clear hb1
  go_wp2_with fail
  refine (xget_ok ⟨#[0, 0, 0, 0, 0, 0, 0, 5, 0]⟩ 2 _ (by decide) (by decide) HR).mono ?_; rintro e w2 ⟨hb2, ao, cap, rfl, h3, h4⟩
  have HB2 := Lib.hid (dstep HB1.out hb2)
  have HN := Lib.hid h3
  clear hb2 h3 h4
  go_wp2_with fail
  refine (nums_same ao (some ⟨w2.heap.size, 0, none⟩) cap 2 [5, 5] _ (HN.out.below (below_new0 w2 _)) (nats_two w2 5 5) (by decide)).mono ?_; rintro e w3 ⟨rfl, hb3⟩
  have HB3 := Lib.hid (dstep (dstep HB2.out (below_new0 w2 _)) hb3)
  clear hb3
  go_wp2_with fail
  go_ret
  exact ⟨rfl, HB3.out⟩
end Go.Proofs.YtihoemimiplhfaaDoor
