/-
  wire.little, wire.head, wire.body: what they read.
-/
import Derived.Test.YtdokbooggbiciaaWireMath
import Derived.Test.YtdokbooggbiciaaErrMk
import Derived.Test.YtdokbooggbiciaaRetCell
import Derived.Test.YtdokbooggbiciaaGet
import Derived.Deep.LoopGhost
namespace Go.Proofs.Ytdokbooggbiciaa
open Go.RowKit

theorem wlit_snoc (l : List UInt8) (b : UInt8) : wlit (l ++ [b]) = wlit l + b.toNat * 256 ^ l.length := by
  induction l with
  | nil => simp [wlit]
  | cons c r ih => simp only [List.cons_append, wlit, ih, List.length_cons, Nat.pow_succ]; rw [Nat.mul_add, Nat.mul_left_comm, Nat.mul_comm (256 ^ r.length) 256]; omega
theorem wlit_lt (l : List UInt8) : wlit l < 256 ^ l.length := by
  induction l with
  | nil => decide
  | cons c r ih => have := c.toNat_lt; simp only [wlit, List.length_cons, Nat.pow_succ]; omega
theorem wlit_take (s : ByteArray) (i : Nat) (h : i < s.size) : wlit (s.data.toList.take (i + 1)) = wlit (s.data.toList.take i) + (s[i]'h).toNat * 256 ^ i := by
  have hl : i < s.data.toList.length := by simpa using h
  rw [List.take_succ_eq_append_getElem hl, wlit_snoc]
  simp only [List.length_take]
  rw [Nat.min_eq_left (by omega)]
  rfl
theorem lit_or (m j : Nat) (c : UInt8) (hm : m < 256 ^ j) (hj : j < 8) : bits .or .u64 (m : Int) (IntKind.u64.wrap (IntKind.u64.wrap (c.toNat : Int) * 2 ^ (8 * j))) = ((m + c.toNat * 256 ^ j : Nat) : Int) := by
  have hc := c.toNat_lt
  have e256 : 256 ^ j = 2 ^ (8 * j) := by rw [show 256 = 2 ^ 8 from rfl, ← Nat.pow_mul]
  have h1 : IntKind.u64.wrap (c.toNat : Int) = c.toNat := u64_wrap_id (by omega) (by omega)
  have hle : 256 ^ j ≤ 256 ^ 7 := Nat.pow_le_pow_right (by omega) (by omega)
  have h2 : c.toNat * 256 ^ j ≤ 255 * 256 ^ 7 := Nat.mul_le_mul (by omega) hle
  have h3 : IntKind.u64.wrap ((c.toNat : Int) * 2 ^ (8 * j)) = ((c.toNat * 256 ^ j : Nat) : Int) := by
    have : (c.toNat : Int) * 2 ^ (8 * j) = ((c.toNat * 256 ^ j : Nat) : Int) := by rw [e256]; simp
    rw [this]
    exact u64_wrap_id (by omega) (by omega)
  rw [h1, h3, u64_or_nat _ _ (by omega) (by omega)]
  congr 1
  rw [Nat.or_comm, nat_join (8 * j) _ m (by rw [e256]; exact Nat.mul_mod_left _ _) (by rw [← e256]; exact hm)]
  omega
set_option maxRecDepth 100000 in
set_option maxHeartbeats 2000000 in
theorem little_any (s : ByteArray) (w : World) (hs : s.size ≤ 8) :
    Calls Try.prog 84 #[.string s] w fun e w' => e = .returned (.int .u64 (wlit s.data.toList : Nat)) ∧ w = w' := by
  have HL := Lib.hid (show s.data.toList.length = s.size by simp)
  go_enter Try.func84, Try.ntmps84
  go_wp2
  go_loopg [3, 7] s.size (fun k n i wr => ∃ j : Nat, j + k = s.size ∧ i = .int .i64 (j : Int) ∧ n = .int .u64 (wlit (s.data.toList.take j) : Nat) ∧ wr = w)
  case atStart => exact ⟨0, by omega, rfl, rfl, rfl⟩
  case round =>
    obtain ⟨j, hj, rfl, rfl, rfl⟩ := hrel
    have HJ := Lib.hid hj
    have hjs : j ≤ s.size := by omega
    clear hj
    by_cases hlt : j < s.size
    · have HT := Lib.hid (wlit_take s j hlt)
      have hmin : min (8 * (j : Int)) 64 = 8 * j := by omega
      have HO := Lib.hid (lit_or (wlit (s.data.toList.take j)) j (s[j]'hlt) (Nat.lt_of_lt_of_le (wlit_lt _) (Nat.pow_le_pow_right (by omega) (by simp; omega))) (by omega))
      go_wp2
      have hj := HJ.out
      go_roundg (gk - 1)
      case measure => omega
      case rel => exact ⟨j + 1, by omega, by simp, by rw [HT.out, HO.out], rfl⟩
    · have e : s.data.toList.take j = s.data.toList := List.take_of_length_le (by have := HL.out; omega)
      have E := Lib.hid e
      clear e
      go_wp2
      go_ret
      exact ⟨by rw [E.out]; rfl, rfl⟩
/-- nothing was read -/
def rec0 : Value := .agg #[.int .i64 0, .int .i64 0, .int .u64 0, .string ⟨#[]⟩, .string ⟨#[]⟩]
def HeadPost (s : ByteArray) (p : Nat) (w : World) (e : Ending) (w' : World) : Prop := match whd (s.data.toList.drop p) with
  | .error c => ∃ v, e = .returned (.tuple #[rec0, .int .i64 0, v]) ∧ ErrNew w (p : Int) (c : Int) v w'
  | .ok (num, ty, j) => e = .returned (.tuple #[.agg #[.int .i64 (num : Int), .int .i64 (ty : Int), .int .u64 0, .string ⟨#[]⟩, .string ⟨#[]⟩], .int .i64 ((p + j : Nat) : Int), .nilIface]) ∧ Below w.heap.size w w'
theorem head_no {s : ByteArray} {p c : Nat} {w w' : World} {v : Value} (h : whd (s.data.toList.drop p) = .error c) (hE : ErrNew w (p : Int) (c : Int) v w') : HeadPost s p w (.returned (.tuple #[rec0, .int .i64 0, v])) w' := by
  unfold HeadPost; rw [h]; exact ⟨v, rfl, hE⟩
theorem head_ok {s : ByteArray} {p num ty j : Nat} {w w' : World} (h : whd (s.data.toList.drop p) = .ok (num, ty, j)) (hB : Below w.heap.size w w') : HeadPost s p w (.returned (.tuple #[.agg #[.int .i64 (num : Int), .int .i64 (ty : Int), .int .u64 0, .string ⟨#[]⟩, .string ⟨#[]⟩], .int .i64 ((p + j : Nat) : Int), .nilIface])) w' := by
  unfold HeadPost; rw [h]; exact ⟨rfl, hB⟩
theorem u64_and7 (n : Nat) (hn : n < 18446744073709551616) : bits .and .u64 (n : Int) 7 = ((n % 8 : Nat) : Int) := by
  have := u64_and_nat n 7 hn (by decide)
  rw [show ((7 : Nat) : Int) = 7 from rfl] at this
  rw [this, show 7 = 2 ^ 3 - 1 from rfl, Nat.and_two_pow_sub_one_eq_mod]
theorem load_rec {w : World} {g : Nat} {cs : Array Value} (hg : w.heap[g]? = some (.cells cs 63 (0, 0))) (hc : cs.size = 5) : (loadVar 63 ⟨g, 0, none⟩).run Try.prog w = .ok (.agg cs) w :=
  run_loadVar_row w g 63 63 cs (0, 0) _ hg Try.underlying63 rfl (by rw [hc]; kernel_rfl)
theorem old_two (w : World) (a b : Obj) : ((w.alloc a).alloc b).heap[w.heap.size]? = some a := (Below.heap_alloc _ _ _ (by simp)).trans (heap_alloc_new w _)
set_option maxRecDepth 100000 in
set_option maxHeartbeats 2000000 in
theorem head_any (s : ByteArray) (p : Nat) (w : World) (hp : p ≤ s.size) (hs : s.size ≤ 1000000000) :
    Calls Try.prog 75 #[.string s, .int .i64 (p : Int)] w (HeadPost s p w) := by
  have HL := Lib.hid (show s.data.toList.length = s.size by simp)
  cases hv : wv (s.data.toList.drop p) with
  | error c =>
    have HF := Lib.hid (whd_no hv)
    have HV := Lib.hid (vget_no (by have := HL.out; omega) hv)
    clear hv
    go_enter Try.func75, Try.ntmps75
    go_wp2_with fail
    refine (get_err s p _ (by unfold maxLen; omega) HV.out).mono ?_; rintro e w' ⟨rfl, rfl⟩
    go_wp2_with fail
    refine body_cell3 rfl rfl (load_rec (old_two _ _ _) rfl) rfl ?_
    exact head_no HF.out (errNew_at' ((Below.refl _ _).alloc (Nat.le_refl _) _) (by simp))
  | ok x =>
    obtain ⟨t, j⟩ := x
    have HV := Lib.hid (vget_ok (by have := HL.out; omega) hv)
    have HB := Lib.hid (wv_bounds hv)
    have ht : t < 18446744073709551616 := HB.out.2.2.2
    obtain ⟨num, hnum⟩ : ∃ num, num = t / 8 := ⟨_, rfl⟩
    obtain ⟨ty, hty⟩ : ∃ ty, ty = t % 8 := ⟨_, rfl⟩
    have ha := u64_and7 t ht
    rw [← hty] at ha
    have hty8 : ty < 8 := by omega
    have hjl : p + j ≤ s.size := by have := HB.out.2.1; simp at this; have := HL.out; omega
    have hsh : (t : Int) / 8 = (num : Int) := by omega
    have hnb : num < 2305843009213693952 := by omega
    by_cases hbad : num < 1 ∨ 536870911 < num ∨ 5 < ty
    · have HF := Lib.hid (whd_form hv (by rw [← hnum, ← hty]; exact hbad))
      have hcs : num < 1 ∨ (1 ≤ num ∧ 536870911 < num) ∨ (1 ≤ num ∧ num ≤ 536870911 ∧ 5 < ty) := by omega
      clear hv hbad hnum hty
      rcases hcs with h1 | ⟨h1, h2⟩ | ⟨h1, h2, h3⟩
      all_goals go_enter Try.func75, Try.ntmps75
      all_goals go_wp2_with fail
      all_goals refine (get_ok s p _ (by unfold maxLen; omega) HV.out).mono ?_
      all_goals rintro e w' ⟨rfl, rfl⟩
      all_goals go_wp2_with fail
      all_goals refine (at_any _ _ _ _).mono ?_
      all_goals rintro e w' ⟨rfl, rfl⟩
      all_goals go_wp2_with fail
      all_goals refine body_cell3 rfl rfl (load_rec (old_two _ _ _) rfl) rfl ?_
      all_goals exact head_no HF.out (errNew_at' ((Below.refl _ _).alloc (Nat.le_refl _) _) (by simp))
    · have h1 : 1 ≤ num := by omega
      have h2 : num ≤ 536870911 := by omega
      have h3 : ty ≤ 5 := by omega
      have HF := Lib.hid (whd_ok hv (by rw [← hnum]; exact h1) (by rw [← hnum]; exact h2) (by rw [← hty]; exact h3))
      rw [← hnum, ← hty] at HF
      clear hv hbad hnum hty
      go_enter Try.func75, Try.ntmps75
      go_wp2_with fail
      refine (get_ok s p _ (by unfold maxLen; omega) HV.out).mono ?_; rintro e w' ⟨rfl, rfl⟩
      go_wp2_with fail
      refine body_cell3 rfl rfl (load_rec (heap_alloc_new _ _) rfl) rfl ?_
      exact head_ok HF.out ((Below.refl _ _).alloc (Nat.le_refl _) _)
end Go.Proofs.Ytdokbooggbiciaa
