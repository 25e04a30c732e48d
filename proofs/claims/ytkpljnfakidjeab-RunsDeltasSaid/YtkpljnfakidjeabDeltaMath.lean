/-
  Differences mod 2^64, as zigzags, and back; a row of which a part is filled.
-/
import Derived.Test.YtkpljnfakidjeabVarint
import Derived.Test.YtkpljnfakidjeabNatsApp
namespace Go.Proofs.Ytkpljnfakidjeab
open Go.RowKit

/-- 64 bits as a signed number, and back -/
def sgn64 (d : Nat) : Int := if d < 9223372036854775808 then (d : Int) else (d : Int) - 18446744073709551616
def uns64 (z : Int) : Nat := (z % 18446744073709551616).toNat
def zigN (d : Nat) : Nat := (zig (sgn64 d)).toNat
def zagN (x : Nat) : Nat := uns64 (zag x)
theorem zigN_lt {d : Nat} (h : d < 18446744073709551616) : zigN d < 18446744073709551616 := by
  unfold zigN zig sgn64
  split <;> split <;> omega
theorem zagN_lt (x : Nat) : zagN x < 18446744073709551616 := by unfold zagN uns64; omega
theorem zagN_zigN {d : Nat} (h : d < 18446744073709551616) : zagN (zigN d) = d := by
  unfold zagN zigN uns64 zag zig sgn64
  split <;> split <;> split <;> omega
theorem zigN_zagN {x : Nat} (h : x < 18446744073709551616) : zigN (zagN x) = x := by
  unfold zagN zigN uns64 zag zig sgn64
  split <;> split <;> split <;> omega
/-- a less b, mod 2^64 -/
def sub64 (a b : Nat) : Nat := (a + 18446744073709551616 - b) % 18446744073709551616
def add64 (a b : Nat) : Nat := (a + b) % 18446744073709551616
theorem sub64_lt (a b : Nat) : sub64 a b < 18446744073709551616 := by unfold sub64; omega
theorem add64_lt (a b : Nat) : add64 a b < 18446744073709551616 := by unfold add64; omega
theorem wrap_sub (a b : Nat) (ha : a < 18446744073709551616) (hb : b < 18446744073709551616) : IntKind.u64.wrap ((a : Int) - (b : Int)) = ((sub64 a b : Nat) : Int) := by
  rw [IntKind.wrap_u64]; unfold sub64; omega
theorem wrap_sgn (d : Nat) (hd : d < 18446744073709551616) : wrap64 (d : Int) = sgn64 d := by
  unfold sgn64 wrap64; split <;> omega
theorem zig_sgn (d : Nat) (hd : d < 18446744073709551616) : zig (sgn64 d) = ((zigN d : Nat) : Int) := by
  unfold zigN zig sgn64; split <;> split <;> omega
theorem sgn_bounds (d : Nat) (hd : d < 18446744073709551616) : -9223372036854775808 ≤ sgn64 d ∧ sgn64 d ≤ 9223372036854775807 := by
  unfold sgn64; split <;> omega
theorem wrap_add (a b : Nat) : IntKind.u64.wrap ((a : Int) + (b : Int)) = ((add64 a b : Nat) : Int) := by
  rw [IntKind.wrap_u64]; unfold add64; omega
theorem wrap_uns (x : Nat) : IntKind.u64.wrap (zag x) = ((zagN x : Nat) : Int) := by
  rw [IntKind.wrap_u64]; unfold zagN uns64; omega
def dlT (t : List Nat × Nat) (n : Nat) : List Nat × Nat := (t.1 ++ [zigN (sub64 n t.2)], n)
def ulT (t : List Nat × Nat) (x : Nat) : List Nat × Nat := (t.1 ++ [add64 t.2 (zagN x)], add64 t.2 (zagN x))
def dl (l : List Nat) : List Nat × Nat := l.foldl dlT ([], 0)
def ul (l : List Nat) : List Nat × Nat := l.foldl ulT ([], 0)
theorem dl_snoc (l : List Nat) (n : Nat) : dl (l ++ [n]) = dlT (dl l) n := by simp [dl]
theorem ul_snoc (l : List Nat) (n : Nat) : ul (l ++ [n]) = ulT (ul l) n := by simp [ul]
theorem snoc_ind {p : List Nat → Prop} (h0 : p []) (h1 : ∀ l n, p l → p (l ++ [n])) (l : List Nat) : p l := by
  rw [← List.reverse_reverse l]
  generalize l.reverse = m
  induction m with
  | nil => exact h0
  | cons x t ih => rw [List.reverse_cons]; exact h1 _ _ ih
structure OkD (t : List Nat × Nat) (k : Nat) : Prop where
  len : t.1.length = k
  all : ∀ n ∈ t.1, n < 18446744073709551616
  last : t.2 < 18446744073709551616
theorem dl_ok (l : List Nat) : (∀ n ∈ l, n < 18446744073709551616) → OkD (dl l) l.length := by
  refine snoc_ind (p := fun l => (∀ n ∈ l, n < 18446744073709551616) → OkD (dl l) l.length) (fun _ => ⟨rfl, by simp [dl], by simp [dl]⟩) (fun l n ih h => ?_) l
  have ih := ih (fun m hm => h m (by simp [hm]))
  have hn := h n (by simp)
  rw [dl_snoc]
  refine ⟨by simp [dlT, ih.len], fun m hm => ?_, hn⟩
  rcases List.mem_append.1 hm with hm | hm
  · exact ih.all m hm
  · simp at hm
    subst hm
    exact zigN_lt (sub64_lt _ _)
theorem ul_ok (l : List Nat) : OkD (ul l) l.length := by
  refine snoc_ind (p := fun l => OkD (ul l) l.length) ⟨rfl, by simp [ul], by simp [ul]⟩ (fun l n ih => ?_) l
  rw [ul_snoc]
  refine ⟨by simp [ulT, ih.len], fun m hm => ?_, add64_lt _ _⟩
  rcases List.mem_append.1 hm with hm | hm
  · exact ih.all m hm
  · simp at hm
    subst hm
    exact add64_lt _ _
theorem ul_dl (l : List Nat) : (∀ n ∈ l, n < 18446744073709551616) → ul (dl l).1 = (l, (dl l).2) := by
  refine snoc_ind (p := fun l => (∀ n ∈ l, n < 18446744073709551616) → ul (dl l).1 = (l, (dl l).2)) (fun _ => rfl) (fun l n ih h => ?_) l
  have hl : ∀ m ∈ l, m < 18446744073709551616 := fun m hm => h m (by simp [hm])
  have ih := ih hl
  have hn := h n (by simp)
  have ok := (dl_ok l hl).last
  rw [dl_snoc]
  show ul ((dl l).1 ++ [_]) = _
  rw [ul_snoc, ih]
  have e : add64 (dl l).2 (sub64 n (dl l).2) = n := by unfold add64 sub64; omega
  simp only [ulT, dlT, zagN_zigN (sub64_lt _ _), e]
theorem dl_ul (l : List Nat) : (∀ n ∈ l, n < 18446744073709551616) → dl (ul l).1 = (l, (ul l).2) := by
  refine snoc_ind (p := fun l => (∀ n ∈ l, n < 18446744073709551616) → dl (ul l).1 = (l, (ul l).2)) (fun _ => rfl) (fun l n ih h => ?_) l
  have hl : ∀ m ∈ l, m < 18446744073709551616 := fun m hm => h m (by simp [hm])
  have ih := ih hl
  have hn := h n (by simp)
  have ok := (ul_ok l).last
  rw [ul_snoc]
  show dl ((ul l).1 ++ [_]) = _
  rw [dl_snoc, ih]
  have hz := zagN_lt n
  have e : sub64 (add64 (ul l).2 (zagN n)) (ul l).2 = zagN n := by unfold add64 sub64; omega
  simp only [ulT, dlT, e, zigN_zagN hn]
/-- those that are there, and zeros behind them -/
def filled (ls : List Nat) (k : Nat) : List Value := nvals (ls ++ List.replicate k 0)
theorem filled_zero (k : Nat) : List.replicate k (Value.int .u64 0) = filled [] k := by simp [filled, nvals]
theorem filled_length (ls : List Nat) (k : Nat) : (filled ls k).length = ls.length + k := by simp [filled, nvals]
theorem filled_set (ls : List Nat) (k n : Nat) : (filled ls (k + 1)).set ls.length (.int .u64 (n : Int)) = filled (ls ++ [n]) k := by
  unfold filled nvals
  rw [List.replicate_succ, List.map_append, List.set_append_right _ _ (by simp), List.length_map, Nat.sub_self, List.map_cons, List.set_cons_zero]
  simp
theorem filled_at (ls : List Nat) (k : Nat) : (filled ls (k + 1))[ls.length]? = some (.int .u64 0) := by
  unfold filled nvals
  rw [List.replicate_succ]
  simp
theorem filled_all (ls : List Nat) : filled ls 0 = nvals ls := by simp [filled]
theorem zig_at (z : Int) (x : Nat) (w : World) (h1 : -9223372036854775808 ≤ z) (h2 : z ≤ 9223372036854775807) (hx : Hid (zig z = (x : Int))) :
    Calls Try.prog 42 #[.int .i64 z] w fun e w' => e = .returned (.int .u64 x) ∧ w = w' := by
  rw [← hx.out]; exact zig_any z w h1 h2
theorem zag_at (x : Nat) (z : Int) (w : World) (hn : x < 2^64) (hz : Hid (zag x = z)) :
    Calls Try.prog 43 #[.int .u64 x] w fun e w' => e = .returned (.int .i64 z) ∧ w = w' := by
  rw [← hz.out]; exact zag_any x w (Lib.hid hn)
theorem rzig_at (z : Int) (x : Nat) (w : World) (h1 : -9223372036854775808 ≤ z) (h2 : z ≤ 9223372036854775807) (hx : Hid (zig z = (x : Int))) :
    Calls Try.prog 44 #[.int .i64 z] w fun e w' => e = .returned (.int .u64 x) ∧ w = w' := by
  rw [← hx.out]; exact refzig_any z w h1 h2
theorem rzag_at (x : Nat) (z : Int) (w : World) (hn : x < 2^64) (hz : Hid (zag x = z)) :
    Calls Try.prog 45 #[.int .u64 x] w fun e w' => e = .returned (.int .i64 z) ∧ w = w' := by
  rw [← hz.out]; exact refzag_any x w (Lib.hid hn)
end Go.Proofs.Ytkpljnfakidjeab
